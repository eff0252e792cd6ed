import PyProof.Rows.All
import Wide.All
import OpenK.AllK
import Wide.FinOn
import Lean
import PyProof.EqAt
import PyProof.EqKinds
import PyProof.TupleCall
import KE.KDictSum
import PyProof.AttrMissHeap
import PyProof.WalksMore
import KE.LcSums
import PyProof.AutoListH
import PyProof.ListMulRoad
import KE.KSortTup
import PyProof.ZipIter
import PyProof.Draws
import PyProof.EnumFor
import PySem.Challenge.RW_leastrecord_k11_looks_that_go_so
set_option genSizeOf false
set_option compiler.extract_closed false
set_option bootstrap.genMatcherCode false
namespace PySem.W.Fast
def tw11640698239424161990:=0
def tw17574225432596141563:=0
def tw7654139896544041171:=0
def tw8192016426501501575:=0
def tw158744440690764779:=0
def tw9505814195485550896:=0
def tw14064808982779747220:=0
def tw2954970605326486042:=0
def tw5342706777790980243:=0
def tw6471136558788553306:=0
def tw7470310374771197161:=0
def tw12358353154137281059:=0
def tw6836318650336893696:=0
def tw12945699062509483156:=0
def tw18226720487102567465:=0
def tw5012281277086144865:=0
def tw4229674123010098275:=0
def tw10946208356145935253:=0
def tw6330113839594725242:=0
def tw16386893867235163518:=0
def tw3393834971357855049:=0
def tw6217419074263809850:=0
def tw13889313493895741954:=0
def tw4257741471641865057:=0
def tw1128786034008924963:=0
def tw1393814180451514331:=0
def tw1156434925334139252:=0
def tw6181548874106698660:=0
def tw12057234247325493045:=0
def tw10270259846799396866:=0
def tw5417389480100618077:=0
def tw6670100106474994821:=0
def tw8416806705236651382:=0
def tw4106873184244786223:=0
def tw14122596583540484431:=0
def tw1577567839861901368:=0
def tw17290739512365898961:=0
def tw7977386369514946083:=0
def tw18017268030153547478:=0
def tw18208827964796896514:=0
def tw5338923504399628856:=0
def tw6712441271067043760:=0
def tw14888256699282333173:=0
def tw10549672435515042503:=0
def tw9721422254129330245:=0
def tw7234333880643476527:=0
def tw17839021964136459479:=0
def tw13589629215444639311:=0
def tw799680812681768241:=0
def tw12809519326944554366:=0
def tw3317973463990890505:=0
def tw3455806677089894971:=0
def tw12938585342009972056:=0
def tw1667002098211674225:=0
def tw9847306240870811506:=0
def tw6868545278443631829:=0
def tw8385959465924377666:=0
def tw8252890311327979741:=0
def tw13323103309120150037:=0
def tw9497714788702541501:=0
def tw16737328222614946296:=0
def tw13266760040453190657:=0
def tw2707376336866718760:=0
def tw568076023739124913:=0
def tw12693140179977976844:=0
def tw15660398894618249985:=0
def tw16595893797582552225:=0
def tw4677421819993877046:=0
def tw8659520477477849660:=0
def tw3836779899701904374:=0
def tw5371578809901731135:=0
def tw9126678569607762302:=0
def tw15495517652668306128:=0
def tw1500456095202046189:=0
def tw8359531378889161951:=0
def tw11252683337899721596:=0
def tw3380407685749345909:=0
def tw3587516922061526101:=0
def tw12627505249444149891:=0
def tw5084427040555636206:=0
def tw6813517049515611930:=0
def tw3450625543480028781:=0
def tw2417848655898643068:=0
def tw2646054994933149265:=0
def tw7542061071895223441:=0
def tw4286061029843346055:=0
def tw11938112292949542232:=0
def tw14519105056213496896:=0
def tw14691087858821201973:=0
def tw2999493789850582939:=0
def tw8824920892522911418:=0
def tw12534892584524280024:=0
def tw15646412104321149615:=0
def tw15247330612255747523:=0
def tw7190083456110365874:=0
def tw15345438471661100913:=0
def tw2466389667033632885:=0
def tw12518406612499859304:=0
def tw2005684608993732400:=0
def tw15895592745635593380:=0
def tw6439071404391613016:=0
def tw493211182298515906:=0
def tw2595686043089731918:=0
def tw6519771529098824188:=0
def tw7056643540055081506:=0
def tw17734904118179428553:=0
def tw5792765641830292003:=0
def tw5670870021538413629:=0
def tw13363439132236155956:=0
def tw10476495515389547606:=0
def tw10472420151827785458:=0
def tw5705764541549739427:=0
def tw11601816339100892283:=0
def tw2751746349647808099:=0
def tw9148764867952747734:=0
def tw7880574008664127495:=0
def tw3290422076766244846:=0
def tw3155234318678907613:=0
def tw17059993937903527455:=0
def tw1234535337650348675:=0
def tw9732429035517984272:=0
def tw12871944225198608271:=0
def tw7048910468712024165:=0
def tw7411883822177917394:=0
def tw12106113042746580602:=0
def tw5653241948980559562:=0
def tw197412422735292383:=0
def tw8510565575332089003:=0
def tw16074344943196693250:=0
def tw9357529325630201664:=0
def tw1845205270241279854:=0
def tw4061376029120325617:=0
def tw9100105650539477232:=0
def tw14624509248524369506:=0
def tw2508262878844179285:=0
def tw5356885834099673987:=0
def tw5606453957564928060:=0
def tw1517477259923996354:=0
def tw10823090961883200809:=0
def tw8523503665986308208:=0
def tw2050079328816516298:=0
def tw9267749284946504811:=0
def tw9795642602875327402:=0
def tw13772328257433117797:=0
def tw18256664384786065108:=0
def tw1583584571965800025:=0
def tw1987405407045370612:=0
def tw12945352825181437316:=0
def tw11754613098328145350:=0
def tw15763224678698259893:=0
def tw10612419912020145851:=0
def tw2678734312199670178:=0
def tw6253594268312325621:=0
def tw12984556253857971621:=0
def tw5575752398921604394:=0
def tw5033518317469105328:=0
def tw5219221820844197896:=0
def tw2670014396050749730:=0
def tw9153941848424641658:=0
def tw14775846400476324306:=0
def tw8163719015652597121:=0
def tw13863058515953836203:=0
def tw2963446068798613732:=0
def tw16753306988625448441:=0
def tw10996230674322248559:=0
def tw17941558736119073662:=0
def tw13340888247080246354:=0
def tw6510035501473996767:=0
def tw1827087825930833542:=0
def tw17093387497625979219:=0
def tw11644854490808255083:=0
def tw5380109006584460092:=0
def tw15606822959982808080:=0
def tw11638925985907327750:=0
def tw4253030207372096583:=0
def tw8795152720229260201:=0
def tw11269660229617041354:=0
def tw14616926842066239177:=0
def tw3909315472356366481:=0
end PySem.W.Fast
noncomputable section
set_option Elab.async false
set_option linter.all false
set_option maxRecDepth 100000
section
namespace L2
open PySem PySem.Spec PyProof.Rows
abbrev Key:=Sum Int Str
noncomputable def nh:Key->Value->Bool
 | .inl k,v=>Value.isInt k v
 | .inr x,v=>Value.isStrOf x v
noncomputable def OO(w:World):Key->Int
 | .inl k=>hashInt k
 | .inr x=>hashStr w x
theorem bM: ∀{k:Key}{v:Value},nh k v=true->(∃ i t,k=Sum.inl i/\v=Value.int i t)\/(∃ x t,k=Sum.inr x/\v=Value.str x t)
 | .inl i,v,h=>by
  obtain⟨t,e⟩:=Value.isInt_shape (k:=i) (v:=v) h;exact .inl ⟨i,t,rfl,e⟩
 | .inr x,v,h=>by
  obtain⟨t,e⟩:=Value.isStrOf_shape (x:=x) (v:=v) h;exact .inr ⟨x,t,rfl,e⟩
theorem xQ(i:Int)(t:Tok):nh (.inl i) (.int i t)=true:=by simp[nh,Value.isInt]
theorem kC(x:Str)(t:Tok):nh (.inr x) (.str x t)=true:=by simp[nh,Value.isStrOf]
theorem Kg(a b:Int):decide ((Sum.inl a:Key)=Sum.inl b)=(a == b):=by
 by_cases e:a=b
 . subst e;simp
 . have h: ¬ (Sum.inl a:Key)=Sum.inl b:=λq=>e (Sum.inl.inj q);rw[decide_eq_false h];exact(beq_eq_false_iff_ne.mpr e).symm
theorem HJ(a b:Str):decide ((Sum.inr a:Key)=Sum.inr b)=decide (a=b):=by
 by_cases e:a=b
 . subst e;simp
 . have h: ¬ (Sum.inr a:Key)=Sum.inr b:=λq=>e (Sum.inr.inj q);rw[decide_eq_false h,decide_eq_false e]
theorem HQ(a:Int)(b:Str):decide ((Sum.inl a:Key)=Sum.inr b)=false:=decide_eq_false (λq=>nomatch q)
theorem KJ(a:Str)(b:Int):decide ((Sum.inr a:Key)=Sum.inl b)=false:=decide_eq_false (λq=>nomatch q)
noncomputable def aK(prog:Program)(w:World):PySem.KeyKind prog w Key where
 is:=nh
 hash:=OO w
 inj:=λv a b ha hb=>by
  rcases bM ha with⟨i,t,rfl,rfl⟩ | ⟨x,t,rfl,rfl⟩
  . rcases bM hb with⟨j,u,rfl,e⟩ | ⟨y,u,rfl,e⟩
    . injection e with e1 _;rw[e1]
    . exact nomatch e
  . rcases bM hb with⟨j,u,rfl,e⟩ | ⟨y,u,rfl,e⟩
    . exact nomatch e
    . injection e with e1 _;rw[e1]
 byValue:=λk v h=>by
  rcases bM h with⟨i,t,rfl,rfl⟩ | ⟨x,t,rfl,rfl⟩<;>rfl
 pyHash:=λhv h=>by
  rcases bM hv with⟨i,t,rfl,rfl⟩ | ⟨x,t,rfl,rfl⟩
  . exact wpAny_pyHash_int h
  . exact wpAny_pyHash_str h
 eqBool:=λhu hv h=>by
  rcases bM hu with⟨i,t,rfl,rfl⟩ | ⟨x,t,rfl,rfl⟩
  . rcases bM hv with⟨j,u,rfl,rfl⟩ | ⟨y,u,rfl,rfl⟩
    . rw[Kg] at h;exact wpAny_eqBool_int h
    . rw[HQ] at h;exact SeqAt.EqAt.int_str i t y u _ _ _ _ h
  . rcases bM hv with⟨j,u,rfl,rfl⟩ | ⟨y,u,rfl,rfl⟩
    . rw[KJ] at h;exact SeqAt.EqAt.str_int x t j u _ _ _ _ h
    . rw[HJ] at h;exact wpAny_eqBool_str h
 «strs» :=λk x t v h=>by
  rcases bM h with⟨i,u,rfl,e⟩ | ⟨y,u,rfl,e⟩
  . exact nomatch e
  . injection e with e1 _;subst e1;cases v<;>rfl
theorem rS(prog:Program)(w:World)(i:Int)(t:Tok):(aK prog w).is (.inl i) (.int i t)=true:=xQ i t
theorem r9(prog:Program)(w:World)(x:Str)(t:Tok):(aK prog w).is (.inr x) (.str x t)=true:=kC x t
inductive V where
 | non | bl (b:Bool) | int (i:Int) | str (x:Str) | byt (b:Array UInt8) | flt (b:UInt64) | ref (a:Addr) | ty (n:String)
 deriving DecidableEq
noncomputable def RelV:V->Value->Prop
 | .non,u=>u=Value.none
 | .bl b,u=>u=Value.bool b
 | .int i,u=> ∃ t,u=Value.int i t
 | .str x,u=> ∃ t,u=Value.str x t
 | .byt b,u=> ∃ t,u=Value.bytes b t
 | .flt b,u=> ∃ t,u=Value.float b t
 | .ref a,u=>u=Value.ref a
 | .ty n,u=>u=Value.type n
abbrev Vals:List V->List Value->Prop:=Paired RelV
theorem Vals.length{xs:List V}{us:List Value}(r:Vals xs us):xs.length=us.length:=Paired.length r
theorem Vals.get: ∀{xs:List V}{us:List Value}{i:Nat}{x:V},Vals xs us->xs[i]?=some x-> ∃ u,us[i]?=some u/\RelV x u
 | _,_,_,_,.nil,e=>by simp at e
 | _,_,0,_,.cons r _,e=>by simp at e;subst e;exact⟨_,rfl,r⟩
 | _,_,i+1,x,.cons _ t,e=>by
  obtain⟨u,h1,h2⟩:=Vals.get (i:=i) (x:=x) t (by simpa using e);exact⟨u,by simpa using h1,h2⟩
theorem Vals.set{x:V}{u:Value}(r:RelV x u): ∀{xs:List V}{us:List Value}(i:Nat),Vals xs us->Vals (xs.set i x) (us.set i u)
 | _,_,_,.nil=> .nil
 | _,_,0,.cons _ t=> .cons r t
 | _,_,i+1,.cons q t=> .cons q (Vals.set r i t)
theorem Vals.append: ∀{xs ys:List V}{us ws:List Value},Vals xs us->Vals ys ws->Vals (xs++ys) (us++ws)
 | _,_,_,_,.nil,s=>s
 | _,_,_,_,.cons r t,s=> .cons r (Vals.append t s)
theorem Vals.take: ∀{xs:List V}{us:List Value}(n:Nat),Vals xs us->Vals (xs.take n) (us.take n)
 | _,_,0,_=> .nil
 | _,_,_+1,.nil=> .nil
 | _,_,n+1,.cons r t=> .cons r (Vals.take n t)
theorem Vals.drop: ∀{xs:List V}{us:List Value}(n:Nat),Vals xs us->Vals (xs.drop n) (us.drop n)
 | _,_,0,r=>r
 | _,_,_+1,.nil=> .nil
 | _,_,n+1,.cons _ t=>Vals.drop n t
noncomputable def jX:Option V->Option Value->Prop
 | some v,some u=>RelV v u
 | none,none=>True
 | _,_=>False
noncomputable def KV{κ :Type}:List (κ × V)->List (κ × Value)->Prop:=Paired λ(p: κ × V) (q: κ × Value)=>p.1=q.1/\RelV p.2 q.2
noncomputable def kV:Key->V
 | .inl i=> .int i
 | .inr x=> .str x
inductive HO where
  | lst (xs:List V)
  | tup (xs:List V)
  | dK (kvs:List (Key × V)) | dT (kvs:List (List Key × V))
  | set (S:Int->Bool) (n:Nat)
  | ins (C dx:Addr) (fs:List (Str × V))
  | own (x:Addr)
  | xd (fs:List (Str × V))
  | met (f x:Addr)
  | Ba (lo hi:Int)
  | jB (o:Obj) (u:HO)
  | tbl (ps:Array Value)
  | ext (φ :Heap->Prop)
abbrev Hp:=Addr->Option HO
noncomputable def upd(H:Hp)(a:Addr)(o:HO):Hp:=λb=>if b=a then some o else H b
theorem bc{H:Hp}{a:Addr}{o:HO}:upd H a o a=some o:=by unfold upd;rw[if_pos rfl]
theorem aB{H:Hp}{a b:Addr}{o:HO}(h:b≠a):upd H a o b=H b:=by unfold upd;rw[if_neg h]
theorem pT{H:Hp}{a b:Addr}{o u:HO}(h:H a=some o)(h':H b=some u)(d:o≠u):a≠b:=by
 intro e;subst e;rw[h] at h';exact d (Option.some.inj h')
theorem aD{H:Hp}{a b:Addr}{o:HO}(h:H a=some o)(h':H b=none):a≠b:=by
 intro e;subst e;rw[h] at h';cases h'
noncomputable def oT(h:Heap)(a:Addr)(items:Array Value):Prop:= ∃ o,h.get? a=some o/\o.cls= .type "tuple" /\ ∃ n,o.data= .seq items n/\o.dict=none
theorem oT.tup{h:Heap}{a:Addr}{items:Array Value}(x:oT h a items):IsTup h a items:=let ⟨o,e,c,n,d,_⟩:=x;⟨o,e,c,n,d⟩
theorem oT.new(h:Heap)(items:Array Value):oT (h.push { cls:= .type "tuple",data:= .seq items }) h.objs.size items:=⟨_,Heap.get?_push_size _ rfl,rfl,_,rfl,rfl⟩
section
variable(P:Program)(w:World)
noncomputable def bg(H:Hp)(h:Heap)(a:Addr):HO->Prop
 | .lst xs=>xs.length<=sizeLine/\ ∃(av:List Value)(n:Nat),Vals xs av/\h.get? a=some { cls:= .type "list",data:= .seq av.toArray n }
 | .tup xs=>xs.length<=sizeLine/\ ∃ av:List Value,Vals xs av/\oT h a av.toArray
 | .dK kvs=>kvs.length<=sizeLine/\(a == sysModules)=false/\ ∃ vs,KV kvs vs/\h.DictOf (aK P w) a vs
 | .dT kvs=>kvs.length<=sizeLine/\(a == sysModules)=false/\ ∃ xs:List (List Key × Addr × Value),
   Paired (λ(p:List Key × V) (q:List Key × Addr × Value)=>p.1=q.1/\H q.2.1=some (.tup (p.1.map kV))/\RelV p.2 q.2.2) kvs xs /\
   ∃ o es ep,h.get? a=some o/\o.ExactDict/\o.data= .dict es ep/\es.toList=xs.map (entryOfKey (tupleKind (aK P w)))/\(xs.map (·.1)).Nodup
 | .set S n=>h.SetOf (intKind P w) a S n
 | .ins C dx fs=>H dx=some (.own a)/\fs.length<=1000/\dx≠a/\h.get? a=some (PySem.W.instObj C dx) /\
   ∃ mA,h.Ns1 dx mA/\(∀ f,jX (fs.lookup f) (mA f))/\PySem.Within mA (fs.map (·.1))
 | .own _=> ∃ o,h.get? a=some o
 | .xd fs=> ∃ mA,h.Ns1 a mA/\ ∀ f,jX (fs.lookup f) (mA f)
 | .Ba lo hi=> ∃ t u v,h.get? a=some { cls:= .type "range",data:= .fields #[.int lo t,.int hi u,.int 1 v] }
 | .jB o u=>h.get? a=some o∧bg H h a u
 | .tbl ps=>h.get? a=some { cls:= .none,data:= .fields ps }
 | .met f x=>h.get? a=some (PySem.W.methodObj (.ref f) (.ref x))
 | .ext φ => φ h∧(∃ o,h.get? a=some o)∧ ∀ h1 h2:Heap, φ h1->(∀ o,h1.get? a=some o->h2.get? a=some o)-> φ h2
noncomputable def ji (H:Hp) (h:Heap):Prop:= ∀ a o,H a=some o->bg P w H h a o
end
section
variable{P:Program}{w:World}{H H':Hp}{h h':Heap}{a:Addr}{o:HO}
theorem bg.lt(x:bg P w H h a o):a < h.objs.size:=by
 cases o with
 | lst xs=>obtain⟨_,_,_,_,e⟩:=x;exact Heap.lt_size e
 | tup xs=>obtain⟨_,_,_,p⟩:=x;exact p.tup.lt
 | dK kvs=>obtain⟨_,_,_,_,o,_,_,e,_⟩:=x;exact Heap.lt_size e
 | dT kvs=>obtain⟨_,_,_,_,o,_,_,e,_⟩:=x;exact Heap.lt_size e
 | set S n=>obtain⟨o,_,_,_,e,_⟩:=x;exact Heap.lt_size e
 | ins C dx fs=>obtain⟨_,_,_,e,_⟩:=x;exact Heap.lt_size e
 | own y=>obtain⟨_,e⟩:=x;exact Heap.lt_size e
 | xd fs=>obtain⟨_,⟨_,_,_,e,_⟩,_⟩:=x;exact Heap.lt_size e
 | Ba lo hi=>obtain⟨_,_,_,e⟩:=x;exact Heap.lt_size e
 | jB ob u=>obtain⟨e,_⟩:=x;exact Heap.lt_size e
 | tbl ps=>exact Heap.lt_size (show h.get? a=some _ from x)
 | met f y=>exact Heap.lt_size (show h.get? a=some _ from x)
 | ext φ =>obtain⟨_,⟨_,e⟩,_⟩:=x;exact Heap.lt_size e
theorem Paired.xM{α β :Type}{F G: α -> β ->Prop}: ∀{l₁ :List α}{l₂ :List β},Paired F l₁ l₂ ->(∀ a b,F a b->G a b)->Paired G l₁ l₂
 | _,_,.nil,_=> .nil
 | _,_,.cons r t,f=> .cons (f _ _ r) (Paired.xM t f)
theorem bg.qC(x:bg P w H h a o)(k: ∀ b u,(b=a\/H b=some (.own a))->h.get? b=some u->h'.get? b=some u)
  (ho: ∀ b,H b=some (.own a)->H' b=some (.own a)) (ht: ∀ b xs,H b=some (.tup xs)->H' b=some (.tup xs)):bg P w H' h' a o:=by
 induction o with
 | lst xs=>obtain⟨z,av,n,r,e⟩:=x;exact⟨z,av,n,r,k _ _ (.inl rfl) e⟩
 | tup xs=>obtain⟨z,av,r,ob,e,c⟩:=x;exact⟨z,av,r,ob,k _ _ (.inl rfl) e,c⟩
 | dK kvs=>obtain⟨z,y,vs,r,ob,es,ep,e,c⟩:=x;exact⟨z,y,vs,r,ob,es,ep,k _ _ (.inl rfl) e,c⟩
 | dT kvs =>
  obtain⟨z,y,xs,r,ob,es,ep,e,c⟩:=x
  exact⟨z,y,xs,Paired.xM r λp q z=>⟨z.1,ht _ _ z.2.1,z.2.2⟩,ob,es,ep,k _ _ (.inl rfl) e,c⟩
 | set S n=>obtain⟨ob,es,ep,t,e,c⟩:=x;exact⟨ob,es,ep,t,k _ _ (.inl rfl) e,c⟩
 | ins C dx fs =>
  obtain⟨d,z,ne,e,mA,⟨od,es,ep,e2,c⟩,r⟩:=x
  exact⟨ho _ d,z,ne,k _ _ (.inl rfl) e,mA,⟨od,es,ep,k _ _ (.inr d) e2,c⟩,r⟩
 | own y=>obtain⟨ob,e⟩:=x;exact⟨ob,k _ _ (.inl rfl) e⟩
 | xd fs=>obtain⟨mA,⟨od,es,ep,e,c⟩,r⟩:=x;exact⟨mA,⟨od,es,ep,k _ _ (.inl rfl) e,c⟩,r⟩
 | Ba lo hi=>obtain⟨t,u,v,e⟩:=x;exact⟨t,u,v,k _ _ (.inl rfl) e⟩
 | jB ob u ih=>obtain⟨e,q⟩:=x;exact⟨k _ _ (.inl rfl) e,ih q⟩
 | tbl ps =>
  have e:h.get? a=some { cls:= .none,data:= .fields ps }:=x
  show h'.get? a=some { cls:= .none,data:= .fields ps }
  exact k a _ (.inl rfl) e
 | met f y =>
  have e:h.get? a=some (PySem.W.methodObj (.ref f) (.ref y)):=x
  show h'.get? a=some (PySem.W.methodObj (.ref f) (.ref y))
  exact k a _ (.inl rfl) e
 | ext φ =>obtain⟨p,⟨o,e⟩,st⟩:=x;exact⟨st _ _ p λo q=>k _ _ (.inl rfl) q,⟨o,k _ _ (.inl rfl) e⟩,st⟩
theorem ji.lt(x:ji P w H h)(e:H a=some o):a < h.objs.size:=(x a o e).lt
theorem ji.fresh(x:ji P w H h)(e:h.objs.size<=a):H a=none:=by
 cases q:H a with
 | none=>rfl
 | some u=>exact absurd (Nat.lt_of_lt_of_le (x.lt q) e) (Nat.lt_irrefl _)
theorem ji.kept(x:ji P w H h)(k: ∀ b u,h.get? b=some u->h'.get? b=some u):ji P w H h':=λa o e =>
 (x a o e).qC (λb u _ q=>k b u q) (λ_ q=>q) λ_ _ q=>q
theorem ji.laid(x:ji P w H h)(k: ∀ b u,h.get? b=some u->h'.get? b=some u)(hp:h.objs.size<=a)(new:bg P w (upd H a o) h' a o):ji P w (upd H a o) h':=λb u e=>by
 have hn:=x.fresh hp;by_cases hb:b=a
 . subst hb;rw[bc] at e;cases e;exact new
 . rw[aB hb] at e;exact(x b u e).qC (λc v _ q=>k c v q) (λc q=>by rw[aB (aD q hn)];exact q) λc xs q=>by rw[aB (aD q hn)];exact q
end
noncomputable def Rd(H:Hp)(a:Addr)(u:HO):Prop:=H a=some u\/ ∃ o,H a=some (.jB o u)
theorem Rd.of{H:Hp}{a:Addr}{u:HO}(h:H a=some u):Rd H a u:= .inl h
theorem Rd.ok{P:Program}{w:World}{H:Hp}{h:Heap}{a:Addr}{u:HO}(r:Rd H a u)(x:ji P w H h):bg P w H h a u:=by
 rcases r with r | ⟨o,r⟩
 . exact x a u r
 . obtain⟨_,q⟩:=x a _ r;exact q
noncomputable def Nf:Option HO->Prop
 | some (.lst _)=>True
 | some (.dK _)=>True
 | some (.dT _)=>True
 | some (.set _ _)=>True
 | some (.ins _ _ _)=>True
 | some (.ext _)=>True
 | _=>False
section
variable{P:Program}{w:World}{H:Hp}{h h':Heap}{x e:Addr}{o':HO}
theorem ji.write(ok:ji P w H h)(mu:Nf (H x))(he:e=x\/H e=some (.own x))(k: ∀ b u,b≠e->h.get? b=some u->h'.get? b=some u)(heo: ∃ u,h'.get? e=some u)
  (new:bg P w (upd H x o') h' x o'):ji P w (upd H x o') h':=λb u q=>by
 have nown: ∀ c y,H c=some (.own y)->c≠x:=λc y r z=>by subst z;rw[r] at mu;exact mu
 have ntup: ∀ c xs,H c=some (.tup xs)->c≠x:=λc xs r z=>by subst z;rw[r] at mu;exact mu
 by_cases hb:b=x
 . subst hb;rw[bc] at q;cases q;exact new
 . rw[aB hb] at q;by_cases hbe:b=e
   . have q':H b=some (.own x):=by
      rcases he with z | z
      . exact absurd (hbe.trans z) hb
      . rw[hbe];exact z
     rw[q] at q';cases q';obtain⟨v,hv⟩:=heo;exact⟨v,by rw[hbe];exact hv⟩
   . refine(ok b u q).qC (λc v hc r=>k c v ?_ r) (λc r=>by rw[aB (nown c b r)];exact r) λc xs r=>by rw[aB (ntup c xs r)];exact r
     rcases hc with rfl | hc
     . exact hbe
     . rintro rfl;rcases he with z | z
       . exact nown c b hc z
       . rw[hc] at z;cases z;exact hb rfl
end
structure Un(fs ex:List Addr)(H H':Hp)(h h':Heap):Prop where
 keep: ∀ b o,h.get? b=some o->H b=none->b ∉ fs->b ∉ ex->h'.get? b=some o
 slot: ∀ b o,h.get? b=some o->H b=none->b∈fs->b ∉ ex-> ∃ sl,h'.get? b=some { o with slots:=sl }
 free: ∀ b o,h.get? b=some o->H b=none->b ∉ ex->H' b=none
 there: ∀ b o,h.get? b=some o->b ∉ ex-> ∃ o',h'.get? b=some o'
 j9: ∀ b xs,H b=some (.tup xs)->H' b=some (.tup xs)
 jG: ∀ b o u,H b=some (.jB o u)->H' b=some (.jB o u)
 kS: ∀ b ps,H b=some (.tbl ps)-> ∃ more,H' b=some (.tbl (ps++more))
section
variable{fs fs' ex ex':List Addr}{H H1 H2:Hp}{h h1 h2 h':Heap}{a x e:Addr}{o:HO}
theorem Un.any(u:Un fs ex H H1 h h1){b:Addr}{ob:Obj}(q:h.get? b=some ob)(n:H b=none)(hx:b ∉ ex): ∃ sl,h1.get? b=some { ob with slots:=sl }:=by
 by_cases hb:b∈fs
 . exact u.slot b ob q n hb hx
 . exact⟨ob.slots,u.keep b ob q n hb hx⟩
theorem Un.trans(a:Un fs ex H H1 h h1)(b:Un fs ex H1 H2 h1 h2):Un fs ex H H2 h h2 where
 keep:=λc ob q n hc hx=>b.keep c ob (a.keep c ob q n hc hx) (a.free c ob q n hx) hc hx
 slot:=λc ob q n hc hx=>by
  obtain⟨sl,e1⟩:=a.slot c ob q n hc hx;obtain⟨sl',e2⟩:=b.slot c _ e1 (a.free c ob q n hx) hc hx;exact⟨sl',e2⟩
 free:=λc ob q n hx=>by
  obtain⟨o',e1⟩:=a.there c ob q hx;exact b.free c o' e1 (a.free c ob q n hx) hx
 there:=λc ob q hx=>by
  obtain⟨o',e1⟩:=a.there c ob q hx;exact b.there c o' e1 hx
 j9:=λc xs q=>b.j9 c xs (a.j9 c xs q)
 jG:=λc ob xs q=>b.jG c ob xs (a.jG c ob xs q)
 kS:=λc ps q=>by
  obtain⟨m1,e1⟩:=a.kS c ps q;obtain⟨m2,e2⟩:=b.kS c _ e1;exact⟨m1++m2,by rw[e2,Array.append_assoc]⟩
theorem Un.kept(k: ∀ b u,h.get? b=some u->h'.get? b=some u):Un fs ex H H h h' :=
 ⟨λb ob q _ _ _=>k b ob q,λb ob q _ _ _=>⟨ob.slots,k b ob q⟩,λ_ _ _ n _=>n,λb ob q _=>⟨ob,k b ob q⟩,λ_ _ q=>q,λ_ _ _ q=>q,λ_ ps q=>⟨#[],by rw[q];simp⟩⟩
theorem Un.refl:Un fs ex H H h h:=Un.kept λ_ _ q=>q
theorem Un.laid(k: ∀ b u,h.get? b=some u->h'.get? b=some u)(hp:h.objs.size<=a)(hn:H a=none):Un fs ex H (upd H a o) h h' where
 keep:=λb u q _ _ _=>k b u q
 slot:=λb u q _ _ _=>⟨u.slots,k b u q⟩
 free:=λb u q n _=>by rw[aB (Nat.ne_of_lt (Nat.lt_of_lt_of_le (Heap.lt_size q) hp))];exact n
 there:=λb u q _=>⟨u,k b u q⟩
 j9:=λb xs q=>by rw[aB (aD q hn)];exact q
 jG:=λb u xs q=>by rw[aB (aD q hn)];exact q
 kS:=λb ps q=>⟨#[],by rw[aB (aD q hn),q];simp⟩
theorem Un.write(mu:Nf (H x))(he:e=x\/H e=some (.own x))(k: ∀ b u,b≠e->h.get? b=some u->h'.get? b=some u)(heo: ∃ u,h'.get? e=some u):Un fs ex H (upd H x o) h h':=by
 have hx: ∀ b,H b=none->b≠x:=λb n z=>by subst z;rw[n] at mu;exact mu
 have hb: ∀ b,H b=none->b≠e:=λb n z=>by
  subst z;rcases he with r | r
  . exact hx b n r
  . rw[n] at r;cases r
 have hm: ∀ b u,H b=some u-> ¬ Nf (some u)->b≠x:=λb u q nm z=>by subst z;rw[q] at mu;exact nm mu
 refine⟨λb u q n _ _=>k b u (hb b n) q,λb u q n _ _=>⟨u.slots,k b u (hb b n) q⟩,λb u q n _=>by rw[aB (hx b n)];exact n,λb u q _=>?_,
  λb xs q=>by rw[aB (hm b _ q λz=>z)];exact q,λb u xs q=>by rw[aB (hm b _ q λz=>z)];exact q,λb ps q=>⟨#[],by rw[aB (hm b _ q λz=>z),q];simp⟩⟩
 by_cases hbe:b=e
 . subst hbe;exact heo
 . exact⟨u,k b u hbe q⟩
theorem Un.mono(u:Un fs ex H H1 h h1)(hs: ∀ b∈fs,b∈fs')(hx: ∀ b∈ex,b∈ex'):Un fs' ex' H H1 h h1 :=
 ⟨λb ob q n hb he=>u.keep b ob q n (λz=>hb (hs b z)) λz=>he (hx b z),λ_ _ q n _ he=>u.any q n λz=>he (hx _ z),λb ob q n he=>u.free b ob q n λz=>he (hx b z),λb ob q he=>u.there b ob q λz=>he (hx b z),u.j9,u.jG,u.kS⟩
end
noncomputable def Ol(h:Heap)(H:Hp):List Addr:=(List.range h.objs.size).filter λa=>(H a).isSome
noncomputable def rH(h:Heap)(H:Hp):Heap:=PySem.W.hideAll h (Ol h H)
theorem xf(h:Heap)(H:Hp):(rH h H).objs.size=h.objs.size:=PySem.W.hideAll_size _ _
theorem BR{h:Heap}{H:Hp}{b:Addr}{o:Obj}(e:h.get? b=some o)(n:H b=none):(rH h H).get? b=some o :=
 PySem.W.hideAll_get _ e λhm=>by
  have q:(H b).isSome=true:=(List.mem_filter.mp hm).2;rw[n] at q;simp at q
theorem B3{h:Heap}{H:Hp}{b:Addr}{o:Obj}(e:(rH h H).get? b=some o):h.get? b=some o/\H b=none:=by
 have e':h.get? b=some o:=PySem.W.of_hideAll (Ol h H) e;refine⟨e',?_⟩;cases q:H b with
 | none=>rfl
 | some x =>
  have hm:b∈Ol h H:=List.mem_filter.mpr ⟨List.mem_range.mpr (Heap.lt_size e'),by simp[q]⟩
  have z:(rH h H).get? b=none:=PySem.W.hideAll_none (Ol h H) hm
  rw[z] at e;cases e
noncomputable def D6(g h:Heap)(L:Addr):List (Addr × Obj):=(List.range h.objs.size).filterMap λa=>if a=L\/(g.get? a).isSome=true then none else(h.get? a).map λo=>(a,o)
noncomputable def rest(g h:Heap)(L d:Addr):List (Addr × Obj):=(D6 g h L).filter λp=>decide (p.1≠d)
structure Mod(K:PySem.W.Frag)(mg:Str->Option Value)(base:Heap):Prop where
 OD:K.In base
 glob:base.Ns mainGlobals mg
 blt: ∃ mb,base.Ns builtinsNs mb/\ ∀ x:Str,x≠ "__name__" ->mb x=bootBuiltins x
 nolimit:base.NoLimit
structure Cx where
 prog:Program
 w:World
 K:PySem.W.Frag
 mg:Str->Option Value
 base:Heap
 A:Around
 N:List Str
 s₀ :Shared
 H₀ :Hp
 env:Env
 outer:List Env
 stack:List Env
 ex:List Addr
 fn:Str->Bool
 calm:Bool
 pn:List (Addr × Obj)
 xe:Value->Shared->Prop
noncomputable def yw(l:List Env):List Addr:=l.filterMap (·.frame)
abbrev Cx.fs(X:Cx):List Addr:=yw X.outer
noncomputable def Hv(sc:Scope)(x:Str):Prop:=sc.names.lookup x=some .local\/sc.names.lookup x=some .cell\/sc.names.lookup x=some .free
noncomputable def Loc(sc:Scope)(x:Str):Prop:=sc.names.lookup x=some .local\/sc.names.lookup x=some .cell
noncomputable def Look(env:Env)(h:Heap)(m:Str->Option Value)(x:Str)(u:Value):Prop :=
 (env.kindOf x=some .local/\m x=some u)\/((env.kindOf x=some .cell\/env.kindOf x=some .free)/\ ∃ c,env.cells.lookup x=some c/\h.IsCell c (some u))
structure Cx.Ok(X:Cx):Prop where
 mod:Mod X.K X.mg X.base
 kind:X.env.scope.kind= .function
 glob:X.env.globals=mainGlobals
 blt:X.env.builtins=builtinsNs
 above:X.s₀.heap.objs.size<=X.env.locals
 inj: ∀ x y c,X.env.cells.lookup x=some c->X.env.cells.lookup y=some c->x=y
 has: ∀ x,(X.env.kindOf x=some .cell\/X.env.kindOf x=some .free)-> ∃ c,X.env.cells.lookup x=some c
 KY: ∀ x c,X.fn x=true->X.env.cells.lookup x=some c->X.s₀.heap.objs.size<=c
 hd:X.calm=true->X.A.handled=none
 frames:X.A.frames=some X.stack
 M3:X.stack=X.outer\/(X.stack=X.env::X.outer/\X.env.frame=some X.env.locals)
 Pg: ∀ b∈X.ex,b≠X.env.locals/\ ∀ x c,X.env.cells.lookup x=some c->c≠b
 bs: ∀ b o,X.base.get? b=some o->X.s₀.heap.get? b=some o/\X.H₀ b=none
 BZ:X.base.objs.size<=X.s₀.heap.objs.size
 xF: ∀ b o,X.base.get? b=some o->b ∉ X.ex
 Ak: ∀ b∈X.ex,b ∉ X.fs
 ky:X.s₀.heap.FunFrames X.base X.outer
 FQ: ∀ b∈X.fs,X.H₀ b=none
structure Inv(X:Cx)(pins:List (Addr × Obj))(σ :List (Option V))(H:Hp)(s:Shared):Prop where
 ok:X.Ok
 os:s.os=X.s₀.os
 bare:AllBare s.gens
 base:Un X.fs X.ex X.H₀ H X.s₀.heap s.heap
 loc: ∃ m,s.heap.Ns X.env.locals m/\ ∀(i:Nat)(x:Str)(v:V),X.N[i]?=some x-> σ[i]?=some (some v)->Hv X.env.scope x-> ∃ u,RelV v u/\Look X.env s.heap m x u
 cell: ∀ x c,X.env.cells.lookup x=some c-> ∃ v,s.heap.IsCell c v
 free:H X.env.locals=none
 iE: ∀ x c,X.env.cells.lookup x=some c->H c=none
 pin: ∀ p∈X.pn++pins,s.heap.get? p.1=some p.2/\H p.1=none/\p.1≠X.env.locals/\p.1 ∉ X.fs/\ ∀ v,p.2.data≠ .cell v
 bx:ji X.prog X.w H s.heap
 len: σ.length=X.N.length
section
variable{X:Cx}{pins:List (Addr × Obj)}{σ :List (Option V)}{H H':Hp}{s:Shared}{h':Heap}
theorem Cx.Ok.Pc(ok:X.Ok){b:Addr}{o:Obj}(e:X.base.get? b=some o):b ∉ X.fs:=λhb=>by
 have:=(ok.ky.mem hb).1;rw[e] at this;cases this
theorem Inv.bs(I:Inv X pins σ H s): ∀ b o,X.base.get? b=some o->s.heap.get? b=some o/\H b=none:=λb o e =>
 ⟨I.base.keep b o (I.ok.bs b o e).1 (I.ok.bs b o e).2 (I.ok.Pc e) (I.ok.xF b o e),I.base.free b o (I.ok.bs b o e).1 (I.ok.bs b o e).2 (I.ok.xF b o e)⟩
theorem Inv.bk(I:Inv X pins σ H s): ∀ b o,X.base.get? b=some o->s.heap.get? b=some o:=λb o e=>(I.bs b o e).1
theorem Inv.mod(I:Inv X pins σ H s):Mod X.K X.mg X.base:=I.ok.mod
theorem Inv.ku(I:Inv X pins σ H s):X.K.In s.heap:=I.ok.mod.OD.keeps I.bk
theorem Inv.nolimit(I:Inv X pins σ H s):s.heap.NoLimit:=I.ok.mod.nolimit.keeps I.bk
theorem Inv.fr(I:Inv X pins σ H s): ∃ m,Fr X.base X.env.locals s.heap m :=
 let ⟨m,hn,_⟩:=I.loc
 ⟨m,hn,I.bk,Nat.le_trans I.ok.BZ I.ok.above⟩
theorem Inv.lt(I:Inv X pins σ H s):X.env.locals < s.heap.objs.size:=let ⟨_,hn,_⟩:=I.loc;hn.lt
theorem Inv.sz(I:Inv X pins σ H s):X.s₀.heap.objs.size<=s.heap.objs.size:=Nat.le_trans I.ok.above (Nat.le_of_lt I.lt)
theorem Inv.NR(I:Inv X pins σ H s){a:Addr}(h:s.heap.objs.size<=a):a ∉ X.fs:=λhb=>by
 obtain⟨_,o,ho,_⟩:=I.ok.ky.mem hb;exact absurd (Nat.lt_of_lt_of_le (Heap.lt_size ho) (Nat.le_trans I.sz h)) (Nat.lt_irrefl _)
theorem Inv.J9(I:Inv X pins σ H s): ∀ x c,X.env.cells.lookup x=some c->c≠X.env.locals:=λx c e z=>by
 obtain⟨v,o,ho,hd⟩:=I.cell x c e;obtain⟨m,⟨o',es,ep,ho',hd',_⟩,_⟩:=I.loc;rw[z,ho'] at ho;cases ho;rw[hd'] at hd;cases hd
theorem Inv.ky(I:Inv X pins σ H s):s.heap.FunFrames X.base X.outer:=by
 have all: ∀(l:List Env),(∀ b∈yw l,b∈X.fs)->X.s₀.heap.FunFrames X.base l->s.heap.FunFrames X.base l:=by
  intro l
  induction l with
  | nil=>intro _ _;trivial
  | cons env r ih =>
   intro hs hl
   obtain⟨hk,⟨L,o,hf,hn,ho,hd⟩,hr⟩:=hl
   have hL:L∈X.fs:=hs L (by unfold yw;rw[List.filterMap_cons,hf];exact List.mem_cons_self)
   obtain⟨sl,e⟩:=I.base.slot L o ho (I.ok.FQ L hL) hL λz=>I.ok.Ak L z hL
   exact⟨hk,⟨L,_,hf,hn,e,hd⟩,ih (λb hb=>hs b (by unfold yw;rw[List.filterMap_cons,hf];exact List.mem_cons_of_mem _ hb)) hr⟩
 exact all X.outer (λ_ hb=>hb) I.ok.ky
theorem Inv.stack(I:Inv X pins σ H s):s.heap.FunFrames X.base X.stack:=by
 rcases I.ok.M3 with e | ⟨e,hf⟩
 . rw[e];exact I.ky
 . rw[e];obtain⟨m,hn,_⟩:=I.loc;refine .cons (by rw[I.ok.kind];decide) hf hn ?_ I.ky;exact Heap.get?_none_of_le (Nat.le_trans I.ok.BZ I.ok.above)
theorem Inv.kU(I:Inv X pins σ H s): ∀ b∈yw X.stack,b∈X.env.locals::X.fs:=λb hb=>by
 rcases I.ok.M3 with e | ⟨e,hf⟩
 . rw[e] at hb;exact List.mem_cons_of_mem _ hb
 . rw[e] at hb;unfold yw at hb;rw[List.filterMap_cons,hf] at hb;exact hb
theorem Inv.vN(I:Inv X pins σ H s): ∀ b∈yw X.stack,H b=none:=λb hb=>by
 rcases List.mem_cons.mp (I.kU b hb) with e | hb
 . rw[e];exact I.free
 . obtain⟨_,o,ho,_⟩:=I.ok.ky.mem hb;exact I.base.free b o ho (I.ok.FQ b hb) λz=>I.ok.Ak b z hb
theorem Inv.step{g':Array GenState}{t':Nat}{d':Drawn}{ch:List Addr}(I:Inv X pins σ H s)
  (hch: ∀ b∈ch,(b∈X.ex\/X.s₀.heap.objs.size<=b)/\b≠X.env.locals/\(∀ x c,X.env.cells.lookup x=some c->c≠b)/\ ∀ p∈X.pn++pins,p.1≠b)
  (keep: ∀ b o,b≠X.env.locals->b ∉ X.fs->b ∉ ch->s.heap.get? b=some o->H b=none->h'.get? b=some o)
  (slot: ∀ b o,b≠X.env.locals->b∈X.fs->b ∉ ch->s.heap.get? b=some o->H b=none-> ∃ sl,h'.get? b=some { o with slots:=sl }) (free: ∀ b o,b ∉ ch->s.heap.get? b=some o->H b=none->H' b=none)
  (there: ∀ b o,b ∉ ch->s.heap.get? b=some o-> ∃ o',h'.get? b=some o')
  (j9: ∀ b xs,H b=some (.tup xs)->H' b=some (.tup xs)) (jG: ∀ b o u,H b=some (.jB o u)->H' b=some (.jB o u)) (kS: ∀ b ps,H b=some (.tbl ps)-> ∃ more,H' b=some (.tbl (ps++more)))
  (ns: ∀ m,s.heap.Ns X.env.locals m->h'.Ns X.env.locals m) (bx:ji X.prog X.w H' h') (hg:AllBare g') :
  Inv X pins σ H' { s with heap:=h',gens:=g',drawn:=d',toks:=t' }:=by
 have neL: ∀ b o,X.s₀.heap.get? b=some o->b≠X.env.locals:=λb o e=>Nat.ne_of_lt (Nat.lt_of_lt_of_le (Heap.lt_size e) I.ok.above);have neC: ∀ b o,X.s₀.heap.get? b=some o->b ∉ X.ex->b ∉ ch:=λb o e hx hb=>by
  rcases(hch b hb).1 with z | z
  . exact hx z
  . exact absurd (Nat.lt_of_lt_of_le (Heap.lt_size e) z) (Nat.lt_irrefl _)
 have cellK: ∀ x c,X.env.cells.lookup x=some c-> ∀ v,s.heap.IsCell c v->h'.IsCell c v:=λx c e v ⟨o,ho,hd⟩=>by
  have nch:c ∉ ch:=λz=>(hch c z).2.2.1 x c e rfl;by_cases hc:c∈X.fs
  . obtain⟨sl,q⟩:=slot c o (I.J9 x c e) hc nch ho (I.iE x c e);exact⟨_,q,hd⟩
  . exact⟨o,keep c o (I.J9 x c e) hc nch ho (I.iE x c e),hd⟩
 refine⟨I.ok,I.os,hg,⟨λb o e n hb hx=>?_,λb o e n hb hx=>?_,λb o e n hx=>?_,λb o e hx=>?_,λb xs e=>j9 b xs (I.base.j9 b xs e),λb o xs e=>jG b o xs (I.base.jG b o xs e),λb ps e=>?_⟩,?_,λx c e=>?_,?_,λx c e=>?_,λp hp=>?_,bx,I.len⟩
 . exact keep b o (neL b o e) hb (neC b o e hx) (I.base.keep b o e n hb hx) (I.base.free b o e n hx)
 . obtain⟨sl,e1⟩:=I.base.slot b o e n hb hx;obtain⟨sl',e2⟩:=slot b _ (neL b o e) hb (neC b o e hx) e1 (I.base.free b o e n hx);exact⟨sl',e2⟩
 . obtain⟨o',e1⟩:=I.base.there b o e hx;exact free b o' (neC b o e hx) e1 (I.base.free b o e n hx)
 . obtain⟨o',e1⟩:=I.base.there b o e hx;exact there b o' (neC b o e hx) e1
 . obtain⟨m1,e1⟩:=I.base.kS b ps e;obtain⟨m2,e2⟩:=kS b _ e1;exact⟨m1++m2,by rw[e2,Array.append_assoc]⟩
 . obtain⟨m,hn,hl⟩:=I.loc;refine⟨m,ns m hn,λi x v e1 e2 e3=>?_⟩;obtain⟨u,r,l⟩:=hl i x v e1 e2 e3;refine⟨u,r,?_⟩;rcases l with l | ⟨k,c,e,z⟩
   . exact .inl l
   . exact .inr ⟨k,c,e,cellK x c e _ z⟩
 . obtain⟨v,z⟩:=I.cell x c e;exact⟨v,cellK x c e v z⟩
 . obtain⟨m,⟨o,_,_,ho,_⟩,_⟩:=I.loc;exact free _ o (λz=>(hch _ z).2.1 rfl) ho I.free
 . obtain⟨v,o,ho,hd⟩:=I.cell x c e;exact free c o (λz=>(hch c z).2.2.1 x c e rfl) ho (I.iE x c e)
 . obtain⟨e,n,ne,nf,d⟩:=I.pin p hp;have nch:p.1 ∉ ch:=λz=>(hch p.1 z).2.2.2 p hp rfl;exact⟨keep p.1 p.2 ne nf nch e n,free p.1 p.2 nch e n,ne,nf,d⟩
theorem Inv.un{t':Nat}(I:Inv X pins σ H s)(u:Un X.fs [] H H' s.heap h')(bx:ji X.prog X.w H' h'):Inv X pins σ H' { s with heap:=h',toks:=t' }:=by
 obtain⟨m,⟨o,es,ep,ho,r⟩,_⟩:=id I.loc;obtain⟨sl,hL⟩:=u.any ho I.free (by simp);exact I.step (g':=s.gens) (d':=s.drawn) (ch:=[]) (λ_ z=>nomatch z) (λb o _ hb _ e n=>u.keep b o e n hb (by simp)) (λb o _ hb _ e n=>u.slot b o e n hb (by simp)) (λb o _ e n=>u.free b o e n (by simp)) (λb o _ e=>u.there b o e (by simp)) u.j9 u.jG u.kS (λm' hm=>by
  obtain⟨o',es',ep',ho',r'⟩:=hm;rw[ho] at ho';cases ho';exact⟨_,es',ep',hL,r'⟩) bx I.bare
theorem Inv.call{g':Array GenState}{t':Nat}{d':Drawn}{ch:List Addr}(I:Inv X pins σ H s)(u:Un (yw X.stack) ch H H' s.heap h')(bx:ji X.prog X.w H' h')(hg:AllBare g')
  (hch: ∀ b∈ch,(b∈X.ex\/X.s₀.heap.objs.size<=b)/\b≠X.env.locals/\(∀ x c,X.env.cells.lookup x=some c->c≠b)/\ ∀ p∈X.pn++pins,p.1≠b) :
  Inv X pins σ H' { s with heap:=h',gens:=g',drawn:=d',toks:=t' }:=by
 obtain⟨m,⟨o,es,ep,ho,r⟩,_⟩:=id I.loc;obtain⟨sl,hL⟩:=u.any ho I.free λz=>(hch _ z).2.1 rfl;exact I.step (ch:=ch) hch (λb o hL hb hc e n=>u.keep b o e n (λz=>(List.mem_cons.mp (I.kU b z)).elim hL hb) hc) (λb o _ _ hc e n=>u.any e n hc) (λb o hc e n=>u.free b o e n hc) (λb o hc e=>u.there b o e hc) u.j9 u.jG u.kS (λm' hm=>by
  obtain⟨o',es',ep',ho',r'⟩:=hm;rw[ho] at ho';cases ho';exact⟨_,es',ep',hL,r'⟩) bx hg
theorem Inv.turned{t':Nat}{it:Addr}(I:Inv X pins σ H s)(k: ∀ b o,b≠it->s.heap.get? b=some o->h'.get? b=some o)(hn:H it=none)(hL:it≠X.env.locals)
  (h1:it∈X.ex\/X.s₀.heap.objs.size<=it) (h2: ∀ x c,X.env.cells.lookup x=some c->c≠it) (h3: ∀ p∈X.pn++pins,p.1≠it):Inv X pins σ H { s with heap:=h',toks:=t' }:=by
 have nit: ∀ b u,H b=some u->b≠it:=λb u e z=>by rw[z,hn] at e;cases e
 refine I.step (g':=s.gens) (d':=s.drawn) (ch:=[it]) (λb hb=>?_) (λb o _ _ hc e _=>k b o (λz=>hc (by simp[z])) e) (λb o _ _ hc e _=>⟨o.slots,k b o (λz=>hc (by simp[z])) e⟩) (λ_ _ _ _ n=>n)
  (λb o hc e=>⟨o,k b o (λz=>hc (by simp[z])) e⟩) (λ_ _ e=>e) (λ_ _ _ e=>e) (λb ps e=>⟨#[],by rw[e];simp⟩) (λm hm=>?_) (λb u e=>?_) I.bare
 . have e:b=it:=by simpa using hb
   subst e;exact⟨h1,hL,h2,h3⟩
 . obtain⟨o,es,ep,ho,r⟩:=hm;exact⟨o,es,ep,k _ o (Ne.symm hL) ho,r⟩
 . refine(I.bx b u e).qC (λc v hc q=>k c v ?_ q) (λ_ q=>q) λ_ _ q=>q;rcases hc with z | z
   . rw[z];exact nit b u e
   . exact nit c _ z
theorem Inv.tok(I:Inv X pins σ H s)(t:Nat):Inv X pins σ H { s with toks:=t }:=I.un (h':=s.heap) (t':=t) Un.refl I.bx
theorem Inv.kept{t':Nat}(I:Inv X pins σ H s)(k: ∀ b u,s.heap.get? b=some u->h'.get? b=some u):Inv X pins σ H { s with heap:=h',toks:=t' }:=I.un (Un.kept k) (I.bx.kept k)
theorem Inv.laid{a:Addr}{o:HO}{t':Nat}(I:Inv X pins σ H s)(k: ∀ b u,s.heap.get? b=some u->h'.get? b=some u)(hp:s.heap.objs.size<=a)(new:bg X.prog X.w (upd H a o) h' a o) :
  Inv X pins σ (upd H a o) { s with heap:=h',toks:=t' }:=I.un (Un.laid k hp (I.bx.fresh hp)) (I.bx.laid k hp new)
theorem Inv.write {x e:Addr} {o:HO} {t':Nat} (I:Inv X pins σ H s) (mu:Nf (H x)) (he:e=x∨H e=some (.own x)) (k: ∀ b u,b≠e->s.heap.get? b=some u->h'.get? b=some u) (heo: ∃ u,h'.get? e=some u)
  (new:bg X.prog X.w (upd H x o) h' x o):Inv X pins σ (upd H x o) { s with heap:=h',toks:=t' }:=I.un (Un.write mu he k heo) (I.bx.write mu he k heo new)
theorem Inv.weak {σ':List (Option V)} (I:Inv X pins σ H s) (hl: σ'.length= σ.length) (w: ∀ (i:Nat) v, σ'[i]?=some (some v)-> σ[i]?=some (some v)):Inv X pins σ' H s :=
 ⟨I.ok,I.os,I.bare,I.base,let ⟨m,hn,hl'⟩:=I.loc;⟨m,hn,λi x v e1 e2 e3=>hl' i x v e1 (w i v e2) e3⟩,I.cell,I.free,I.iE,I.pin,I.bx,hl.trans I.len⟩
theorem Inv.iO {pins':List (Addr × Obj)} (I:Inv X pins σ H s) (h: ∀ p∈pins',s.heap.get? p.1=some p.2∧H p.1=none∧p.1≠X.env.locals∧p.1 ∉ X.fs∧ ∀ v,p.2.data≠ .cell v):Inv X pins' σ H s :=
 ⟨I.ok,I.os,I.bare,I.base,I.loc,I.cell,I.free,I.iE,λp hp=>(List.mem_append.mp hp).elim (λz=>I.pin p (List.mem_append_left _ z)) (h p),I.bx,I.len⟩
theorem sW{N:List Str}(hN:N.Nodup){i j:Nat}{x:Str}(a:N[i]?=some x)(b:N[j]?=some x):i=j:=by
 obtain⟨h1,e1⟩:=List.getElem?_eq_some_iff.mp a;obtain⟨h2,e2⟩:=List.getElem?_eq_some_iff.mp b;exact(List.getElem_inj hN).mp (e1.trans e2.symm)
theorem pN{M:Model}{A:Around}{E:Value->Shared->Prop}{i:Nat}{x:Str}{v:V}{u:Value}{Q:Unit->Shared->Prop}(I:Inv X pins σ H s)(hN:X.N.Nodup)(hi:X.N[i]?=some x)(hx:Loc X.env.scope x)(r:RelV v u)
  (h: ∀ s',Inv X pins (σ.set i (some v)) H s'->(∃ a,Heap.SameBut a s.heap s'.heap/\(a=X.env.locals\/X.env.cells.lookup x=some a))->Q () s') (hf:X.fn x=true\/X.env.scope.names.lookup x=some .local:=by first | exact .inl rfl | exact .inr rfl | assumption):wpAny M A (storeName X.env x u) Q E s:=by
 obtain⟨m,hn,hl⟩:=id I.loc;have hcls:(X.env.scope.kind == .class||(X.env.scope.kind == .module&&X.env.locals !=X.env.globals))=false:=by rw[I.ok.kind];rfl
 have hiσ :i < σ.length:=by rw[I.len];exact(List.getElem?_eq_some_iff.mp hi).1
 have J9:=I.J9;have tracked: ∀{a:Addr}{h':Heap},(∃ o,s.heap.get? a=some o/\H a=none)->Heap.SameBut a s.heap h'->ji X.prog X.w H h':=λ{a h'} ha hs b ob e=>by
  obtain⟨_,_,hfree⟩:=ha;refine(I.bx b ob e).qC (λc w' hc q=>(hs.2 c ?_).trans q) (λ_ q=>q) λ_ _ q=>q;rintro rfl;rcases hc with rfl | hc
  . rw[hfree] at e;cases e
  . rw[hfree] at hc;cases hc
 rcases hx with hk | hk
 . refine wpAny_storeName_local hk hn (λh' hn' hs=>?_) hcls;obtain⟨oL,_,_,hoL,_⟩:=id hn;refine h _ ⟨I.ok,I.os,I.bare,⟨λb o e n hb hx=>?_,λb o e n hb hx=>?_,I.base.free,λb o e hx=>?_,I.base.j9,I.base.jG,I.base.kS⟩,⟨_,hn',λj y v' e1 e2 e3=>?_⟩,λy c e=>?_,I.free,I.iE,λp hp=>?_,tracked ⟨oL,hoL,I.free⟩ hs,by simpa using I.len⟩ ⟨_,hs,.inl rfl⟩
   . exact(hs.2 b (Nat.ne_of_lt (Nat.lt_of_lt_of_le (Heap.lt_size e) I.ok.above))).trans (I.base.keep b o e n hb hx)
   . obtain⟨sl,e1⟩:=I.base.slot b o e n hb hx;exact⟨sl,(hs.2 b (Nat.ne_of_lt (Nat.lt_of_lt_of_le (Heap.lt_size e) I.ok.above))).trans e1⟩
   . obtain⟨o',e1⟩:=I.base.there b o e hx;exact⟨o',(hs.2 b (Nat.ne_of_lt (Nat.lt_of_lt_of_le (Heap.lt_size e) I.ok.above))).trans e1⟩
   . by_cases hj:j=i
     . subst hj;rw[hi] at e1;cases e1;rw[List.getElem?_set_self hiσ] at e2;cases e2;exact⟨u,r,.inl ⟨hk,by simp⟩⟩
     . rw[List.getElem?_set_ne (Ne.symm hj)] at e2;obtain⟨u',r',q⟩:=hl j y v' e1 e2 e3;refine⟨u',r',?_⟩;rcases q with⟨k,e⟩ | ⟨k,c,e,z⟩
       . refine .inl ⟨k,?_⟩;have:y≠x:=λe=>hj (sW hN e1 (e ▸ hi));simp[this,e]
       . exact .inr ⟨k,c,e,z.sameBut hs (J9 y c e)⟩
   . obtain⟨w',z⟩:=I.cell y c e;exact⟨w',z.sameBut hs (J9 y c e)⟩
   . obtain⟨e,n,ne,nf,d⟩:=I.pin p hp;exact⟨(hs.2 p.1 ne).trans e,n,ne,nf,d⟩
 . have hfn:X.fn x=true:=by
    rcases hf with z | z
    . exact z
    . rw[z] at hk;cases hk
   obtain⟨c,hc⟩:=I.ok.has x (.inl hk);obtain⟨w',z⟩:=I.cell x c hc;refine wpAny_storeName_cell I.ok.kind hk hc z (λh' hc' hs=>?_);obtain⟨oc,hoc,hocd⟩:=id z;refine h { s with heap:=h' } ⟨I.ok,I.os,I.bare,⟨λb o e n hb hx=>?_,λb o e n hb hx=>?_,I.base.free,λb o e hx=>?_,I.base.j9,I.base.jG,I.base.kS⟩,⟨m,hn.sameBut hs (Ne.symm (J9 x c hc)),λj y v' e1 e2 e3=>?_⟩,λy c' e=>?_,I.free,I.iE,λp hp=>?_,tracked ⟨oc,hoc,I.iE x c hc⟩ hs,by simpa using I.len⟩ ⟨c,hs,.inr hc⟩
   . exact(hs.2 b (Nat.ne_of_lt (Nat.lt_of_lt_of_le (Heap.lt_size e) (I.ok.KY x c hfn hc)))).trans (I.base.keep b o e n hb hx)
   . obtain⟨sl,e1⟩:=I.base.slot b o e n hb hx;exact⟨sl,(hs.2 b (Nat.ne_of_lt (Nat.lt_of_lt_of_le (Heap.lt_size e) (I.ok.KY x c hfn hc)))).trans e1⟩
   . obtain⟨o',e1⟩:=I.base.there b o e hx;exact⟨o',(hs.2 b (Nat.ne_of_lt (Nat.lt_of_lt_of_le (Heap.lt_size e) (I.ok.KY x c hfn hc)))).trans e1⟩
   . by_cases hj:j=i
     . subst hj;rw[hi] at e1;cases e1;rw[List.getElem?_set_self hiσ] at e2;cases e2;exact⟨u,r,.inr ⟨.inl hk,c,hc,hc'⟩⟩
     . rw[List.getElem?_set_ne (Ne.symm hj)] at e2;obtain⟨u',r',q⟩:=hl j y v' e1 e2 e3;refine⟨u',r',?_⟩;rcases q with q | ⟨k,c',e,z'⟩
       . exact .inl q
       . refine .inr ⟨k,c',e,z'.sameBut hs ?_⟩;rintro rfl;exact hj (sW hN e1 (I.ok.inj _ _ _ e hc ▸ hi))
   . by_cases hcc:c'=c
     . subst hcc;exact⟨_,hc'⟩
     . obtain⟨w2,z2⟩:=I.cell y c' e;exact⟨w2,z2.sameBut hs hcc⟩
   . obtain⟨e,n,ne,nf,d⟩:=I.pin p hp;refine⟨(hs.2 p.1 ?_).trans e,n,ne,nf,d⟩;intro q;rw[q,hoc] at e;have q':oc=p.2:=Option.some.inj e;exact d w' (by rw[<- q'];exact hocd)
theorem sS{M:Model}{A:Around}{E:Value->Shared->Prop}{i:Nat}{x:Str}{v:V}{u:Value}{Q:Unit->Shared->Prop}(I:Inv X pins σ H s)(hN:X.N.Nodup)(hi:X.N[i]?=some x)(hx:Loc X.env.scope x)(r:RelV v u)
  (h: ∀ s',Inv X pins (σ.set i (some v)) H s'->Q () s') (hf:X.fn x=true\/X.env.scope.names.lookup x=some .local:=by first | exact .inl rfl | exact .inr rfl | assumption):wpAny M A (storeName X.env x u) Q E s :=
 pN I hN hi hx r (λs' I' _=>h s' I') hf
theorem Inv.MB{s':Shared}{ch:List Addr}(I:Inv X pins σ H s)(ho:s'.os=s.os)(u:Un (yw X.stack) ch H H' s.heap s'.heap)(bx:ji X.prog X.w H' s'.heap)(hg:AllBare s'.gens)
  (hch: ∀ b∈ch,(b∈X.ex\/X.s₀.heap.objs.size<=b)/\b≠X.env.locals/\(∀ x c,X.env.cells.lookup x=some c->c≠b)/\ ∀ p∈X.pn++pins,p.1≠b):Inv X pins σ H' s':=by
 obtain⟨h',g',d',t',o'⟩:=s';have e:o'=s.os:=ho;subst e;exact I.call (g':=g') (t':=t') (d':=d') u bx hg hch
end
abbrev XK:=Value->Option Addr->Hp->Prop
abbrev St:=List (Option V)
abbrev VK:=V->Hp->Prop
abbrev TE:=St->Hp->VK->Prop
abbrev TT:=St->Hp->(Bool->Hp->Prop)->Prop
abbrev TA:=St->Hp->(List V->Hp->Prop)->Prop
structure Ends where
 nx:St->Hp->Prop
 rt:VK
 bk:St->Hp->Prop:=λ_ _=>False
 ct:St->Hp->Prop:=λ_ _=>False
abbrev TS:=Ends->St->Hp->Prop
noncomputable def EP(X:Cx)(pins:List (Addr × Obj))(σ :St)(Q:VK)(u:Value)(s':Shared):Prop:= ∃ v H',Inv X pins σ H' s'/\RelV v u/\Q v H'
noncomputable def TP(X:Cx)(pins:List (Addr × Obj))(σ :St)(Q:Bool->Hp->Prop)(b:Bool)(s':Shared):Prop:= ∃ H',Inv X pins σ H' s'/\Q b H'
noncomputable def AP(X:Cx)(pins:List (Addr × Obj))(σ :St)(Q:List V->Hp->Prop)(us:List Value)(s':Shared):Prop:= ∃ vs H',Inv X pins σ H' s'/\Vals vs us/\Q vs H'
noncomputable def SP(X:Cx)(pins:List (Addr × Obj))(D:Ends)(f:Flow)(s':Shared):Prop :=
 match f with
 | .next=> ∃ σ' H',Inv X pins σ' H' s'/\D.nx σ' H'
 | .brk=> ∃ σ' H',Inv X pins σ' H' s'/\D.bk σ' H'
 | .cont=> ∃ σ' H',Inv X pins σ' H' s'/\D.ct σ' H'
 | .ret u=> ∃ v σ' H',Inv X pins σ' H' s'/\RelV v u/\D.rt v H'
noncomputable def PE(X:Cx)(e:Expr)(t:TE):Prop :=
 ∀(pins:List (Addr × Obj))(s:Shared)(σ :St)(H:Hp)(Q:VK),Inv X pins σ H s->t σ H Q->wpAny (model X.prog X.w) X.A (eval e X.env) (EP X pins σ Q) X.xe s
noncomputable def PT(X:Cx)(e:Expr)(t:TT):Prop :=
 ∀(pins:List (Addr × Obj))(s:Shared)(σ :St)(H:Hp)(Q:Bool->Hp->Prop),Inv X pins σ H s->t σ H Q->wpAny (model X.prog X.w) X.A (isTrue e X.env (eval e X.env)) (TP X pins σ Q) X.xe s
noncomputable def PW(X:Cx)(e:Expr)(t:TT):Prop :=
 ∀(whole:Sem Value)(pins:List (Addr × Obj))(s:Shared)(σ :St)(H:Hp)(Q:Bool->Hp->Prop),Inv X pins σ H s->t σ H Q->wpAny (model X.prog X.w) X.A (isTrue e X.env whole) (TP X pins σ Q) X.xe s
theorem PW.pt{X:Cx}{e:Expr}{t:TT}(h:PW X e t):PT X e t:=h _
noncomputable def PA(X:Cx)(es:List Expr)(t:TA):Prop :=
 ∀(pos:Pos)(pins:List (Addr × Obj))(s:Shared)(σ :St)(H:Hp)(Q:List V->Hp->Prop),Inv X pins σ H s->t σ H Q->wpAny (model X.prog X.w) X.A (spliced (backTo pos (starEach es X.env))) (AP X pins σ Q) X.xe s
noncomputable def PS(X:Cx)(st:Stmt)(t:TS):Prop :=
 ∀(pins:List (Addr × Obj))(s:Shared)(σ :St)(H:Hp)(D:Ends),Inv X pins σ H s->t D σ H->wpAny (model X.prog X.w) X.A (exec st X.env) (SP X pins D) X.xe s
noncomputable def uC(X:Cx)(st:List Stmt)(t:TS):Prop :=
 ∀(pins:List (Addr × Obj))(s:Shared)(σ :St)(H:Hp)(D:Ends),Inv X pins σ H s->t D σ H->wpAny (model X.prog X.w) X.A (execs st X.env) (SP X pins D) X.xe s
theorem cQ{α :Type}{t:Sem α}{Q Q': α ->Shared->Prop}{M:Model}{A:Around}{E:Value->Shared->Prop}{s:Shared}(h:wpAny M A t Q E s)(hQ: ∀ a s,Q a s->Q' a s):wpAny M A t Q' E s:=wpAny_mono h hQ λ_ _ x=>x
section
variable{X:Cx}
theorem bin{a b:Expr}{ta tb:TE}(ha:PE X a ta)(hb:PE X b tb){pins:List (Addr × Obj)}{s:Shared}{σ :St}{H:Hp}{R:V->V->Hp->Prop}(I:Inv X pins σ H s)(h:ta σ H λx H1=>tb σ H1 λy H2=>R x y H2)
  {α :Type} {Q: α ->Shared->Prop} {f:Value->Value->Sem α}
  (hf: ∀ v u s2 x y H2,Inv X pins σ H2 s2->RelV x v->RelV y u->R x y H2->wpAny (model X.prog X.w) X.A (f v u) Q X.xe s2) :
  wpAny (model X.prog X.w) X.A (eval a X.env) (λv s₁ =>wpAny (model X.prog X.w) X.A (eval b X.env) (λu s₂ =>wpAny (model X.prog X.w) X.A (f v u) Q X.xe s₂) X.xe s₁) X.xe s:=by
 refine cQ (ha pins s σ H _ I h) λv s1 ⟨x,H1,I1,r1,q1⟩=>?_;refine cQ (hb pins s1 σ H1 _ I1 q1) λu s2 ⟨y,H2,I2,r2,q2⟩=>?_;exact hf v u s2 x y H2 I2 r1 r2 q2
noncomputable def Jd (i:Nat):TE:=fun σ H Q=> ∃ v, σ[i]?=some (some v)∧Q v H
noncomputable def tC (v:V):TE:=λ_ H Q=>Q v H
theorem zV {i:Nat} {x:Str} {pos:Pos} (hN:X.N[i]?=some x) (hv:Hv X.env.scope x) (hd:(x == ("__debug__" :Str))=false:=by decide) (hcd:(x == ("__classdict__" :Str))=false:=by decide):PE X (.Name x pos) (Jd i):=by
 intro pins s σ H Q I h;obtain⟨v,e,h⟩:=h;obtain⟨m,hn,hl⟩:=I.loc;obtain⟨u,r,l⟩:=hl i x v hN e hv;have fin:EP X pins σ Q u s:=⟨v,H,I,r,h⟩
 rcases l with⟨hk,hm⟩ | ⟨hk,c,hc,hcell⟩
 . exact wpAny_Name (wpAny_loadName_local I.ok.kind hk hn hm fin) hd
 . rcases hk with hk | hk
   . exact wpAny_Name (wpAny_loadName_cell I.ok.kind hk hc hcell fin) hd
   . exact wpAny_Name (wpAny_loadName_free I.ok.kind hk hc hcell fin hcd) hd
theorem JR{i j pos}:PE X (.Constant (.int i) j pos) (tC (.int i)):=λ_ _ _ H _ I h=>wpAny_Constant_int ⟨.int i,H,I.tok _,⟨_,rfl⟩,h⟩
theorem Mr{b j pos}:PE X (.Constant (.bool b) j pos) (tC (.bl b)):=λ_ _ _ H _ I h=>Constant_bool ⟨.bl b,H,I,rfl,h⟩
theorem GB{j pos}:PE X (.Constant .none j pos) (tC .non):=λ_ _ _ H _ I h=>Constant_none ⟨.non,H,I,rfl,h⟩
theorem Ii{x j pos}:PE X (.Constant (.str x) j pos) (tC (.str x)):=λ_ _ _ H _ I h=>Calls.Constant_str ⟨.str x,H,I.tok _,⟨_,rfl⟩,h⟩
noncomputable def Gl(X:Cx)(x:Str):Prop:=X.env.kindOf x=some .globalImplicit
theorem vK{E:Value->Shared->Prop}{pins:List (Addr × Obj)}{s:Shared}{σ :St}{H:Hp}{x:Str}{u:Value}{pos:Pos}{Q:Value->Shared->Prop}(I:Inv X pins σ H s)(hg:Gl X x)(hm:X.mg x=some u)(h:Q u s)
  (hd:(x == ("__debug__" :Str))=false:=by decide):wpAny (model X.prog X.w) X.A (eval (.Name x pos) X.env) Q E s :=
 Calls.Name_function_global I.ok.kind hg (Calls.loadGlobal_global (by rw[I.ok.glob];exact I.mod.glob.keeps I.bk) hm h) hd
theorem kQ{E:Value->Shared->Prop}{pins:List (Addr × Obj)}{s:Shared}{σ :St}{H:Hp}{x:Str}{u:Value}{pos:Pos}{Q:Value->Shared->Prop}(I:Inv X pins σ H s)(hg:Gl X x)(hm:X.mg x=none)(hv:bootBuiltins x=some u)(h:Q u s)
  (hn:x≠ "__name__" :=by decide) (hd:(x == ("__debug__" :Str))=false:=by decide):wpAny (model X.prog X.w) X.A (eval (.Name x pos) X.env) Q E s:=by
 obtain⟨mb,h1,h2⟩:=I.mod.blt;exact Calls.Name_function_global I.ok.kind hg (Calls.loadGlobal_builtin (by rw[I.ok.glob];exact I.mod.glob.keeps I.bk) hm (by rw[I.ok.blt];exact h1.keeps I.bk) ((h2 x hn).trans hv) h) hd
theorem wN{x:Str}{v:V}{u:Value}{pos:Pos}(hg:Gl X x)(hm:X.mg x=some u)(r:RelV v u)(hd:(x == ("__debug__" :Str))=false:=by decide):PE X (.Name x pos) (tC v) :=
 λ_ _ _ H _ I h=>vK I hg hm ⟨v,H,I,r,h⟩ hd
theorem ER{x:Str}{v:V}{u:Value}{pos:Pos}(hg:Gl X x)(hm:X.mg x=none)(hv:bootBuiltins x=some u)(r:RelV v u)(hn:x≠ "__name__" :=by decide)(hd:(x == ("__debug__" :Str))=false:=by decide):PE X (.Name x pos) (tC v) :=
 λ_ _ _ H _ I h=>kQ I hg hm hv ⟨v,H,I,r,h⟩ hn hd
variable{a b:Expr}{ta tb:TE}{pos:Pos}
noncomputable def PC(X:Cx)(op:CmpOp)(a b:Expr)(t:TE):Prop :=
 ∀(pins:List (Addr × Obj))(s:Shared)(σ :St)(H:Hp)(Q:VK),Inv X pins σ H s->t σ H Q ->
  wpAny (model X.prog X.w) X.A (eval a X.env) (λv s₁ =>wpAny (model X.prog X.w) X.A (eval b X.env) (λu s₂ =>wpAny (model X.prog X.w) X.A (compareOp op v u) (EP X pins σ Q) X.xe s₂) X.xe s₁) X.xe s
theorem sM(b:Expr){op:CmpOp}(h:op≠ .In)(h2:op≠ .NotIn):behindInMarks op b=false:=by
 have e1:(op == CmpOp.In)=false:=by cases op<;>first | rfl | exact absurd rfl h
 have e2:(op == CmpOp.NotIn)=false:=by cases op<;>first | rfl | exact absurd rfl h2
 cases b<;>simp[behindInMarks,e1,e2]
noncomputable def JC(ta:TE):TE:=fun σ H Q=>ta σ H λx H1=>Q (.bl (decide (x= .non))) H1
noncomputable def Fo(ta:TE):TE:=fun σ H Q=>ta σ H λx H1=>Q (.bl (!decide (x= .non))) H1
theorem RelV.si{x:V}{v:Value}(r:RelV x v):(v == Value.none)=decide (x= .non):=by
 cases x with
 | non=>cases r;rfl
 | bl _=>cases r;rfl
 | int _=>obtain⟨t,rfl⟩:=r;rfl
 | str _=>obtain⟨t,rfl⟩:=r;rfl
 | byt _=>obtain⟨t,rfl⟩:=r;rfl
 | flt _=>obtain⟨t,rfl⟩:=r;rfl
 | ref _=>cases r;rfl
 | ty _=>cases r;rfl
theorem yG{j pos'}(ha:PE X a ta):PC X .Is a (.Constant .none j pos') (JC ta):=by
 intro pins s σ H Q I h;refine cQ (ha pins s σ H _ I h) λv s1 ⟨x,H1,I1,r1,q1⟩=>?_;exact Constant_none (is_none_gen ⟨.bl _,H1,I1,by rw[r1.si];rfl,q1⟩)
theorem EI{j pos'}(ha:PE X a ta):PC X .IsNot a (.Constant .none j pos') (Fo ta):=by
 intro pins s σ H Q I h;refine cQ (ha pins s σ H _ I h) λv s1 ⟨x,H1,I1,r1,q1⟩=>?_;exact Constant_none (isnot_none_gen ⟨.bl _,H1,I1,by rw[r1.si];rfl,q1⟩)
noncomputable def tB(t:TE):TT:=fun σ H Q=>t σ H λx H1=> ∃ c,x= .bl c/\Q c H1
theorem HF{op:CmpOp}{t:TE}(h:PC X op a b t)(h1:behindInMarks op b=false:=by first | exact sM _ (by decide) (by decide) | rfl):PE X (.Compare a [op] [b] pos) t:=λpins s σ H Q I hw=>wpAny_Compare1 (h pins s σ H Q I hw) h1
theorem zw{op:CmpOp}{t:TE}(h:PC X op a b t)(h1:behindInMarks op b=false:=by first | exact sM _ (by decide) (by decide) | rfl):PT X (.Compare a [op] [b] pos) (tB t):=by
 intro pins s σ H Q I hw;refine wpAny_isTrue_Compare1 (cQ (h pins s σ H _ I hw) λv s1 h1=>cQ h1 λu s2 h2=>cQ h2 λc s3 ⟨x,H1,I1,r1,q1⟩=>?_) h1;obtain⟨d,rfl,q⟩:=q1;cases r1;exact wpAny_truthy_bool ⟨H1,I1,q⟩
theorem IC{e:Expr}{t:TE}(h:PE X e t)(he: ∀ whole,isTrue e X.env whole=(do let v <- whole;standAt e.pos;holding [v] (truthy v)):=by intro _;rfl):PT X e (tB t):=by
 intro pins s σ H Q I hw;refine isTrue_plain (cQ (h pins s σ H _ I hw) λv s1 ⟨x,H1,I1,r1,q1⟩=>?_) (he _);obtain⟨d,rfl,q⟩:=q1;cases r1;exact wpAny_truthy_bool ⟨H1,I1,q⟩
variable{tA tB':TT}{rest:List Expr}
noncomputable def ND(t u:TT):TT:=fun σ H Q=>t σ H λc H1=>if c=true then u σ H1 Q else Q false H1
noncomputable def Qc(t u:TT):TT:=fun σ H Q=>t σ H λc H1=>if c=true then Q true H1 else u σ H1 Q
noncomputable def Lp(t:TT):TT:=fun σ H Q=>t σ H λc H1=>Q (!c) H1
theorem pw_and1(ha:PT X a tA):PW X (.BoolOp .And [a] pos) tA:=by
 intro wh pins s σ H Q I h;refine isTrue_and (cQ (ha pins s σ H Q I h) λc s1 e=>?_);cases c with
 | true=>exact isTrue_and_nil e
 | false=>exact e
theorem pw_or1(ha:PT X a tA):PW X (.BoolOp .Or [a] pos) tA:=by
 intro wh pins s σ H Q I h;refine isTrue_or (cQ (ha pins s σ H Q I h) λc s1 e=>?_);cases c with
 | false=>exact isTrue_or_nil e
 | true=>exact e
theorem pw_and(ha:PT X a tA)(hb:PW X (.BoolOp .And (b::rest) pos) tB'):PW X (.BoolOp .And (a::b::rest) pos) (ND tA tB'):=by
 intro wh pins s σ H Q I h;refine isTrue_and (cQ (ha pins s σ H _ I h) λc s1 ⟨H1,I1,q1⟩=>?_);cases c with
 | true=>exact hb wh pins s1 σ H1 Q I1 q1
 | false=>exact⟨H1,I1,q1⟩
theorem pw_or(ha:PT X a tA)(hb:PW X (.BoolOp .Or (b::rest) pos) tB'):PW X (.BoolOp .Or (a::b::rest) pos) (Qc tA tB'):=by
 intro wh pins s σ H Q I h;refine isTrue_or (cQ (ha pins s σ H _ I h) λc s1 ⟨H1,I1,q1⟩=>?_);cases c with
 | true=>exact⟨H1,I1,q1⟩
 | false=>exact hb wh pins s1 σ H1 Q I1 q1
theorem Kt(ha:PT X a tA):PT X (.UnaryOp .Not a pos) (Lp tA):=by
 intro pins s σ H Q I h;exact isTrue_not (ha pins s σ H (λc H1=>Q (!c) H1) I h)
noncomputable def Fy(ta tb:TE):TE:=fun σ H Q=>ta σ H λx H1=> ∃ c,x= .bl c/\if c=true then tb σ H1 Q else Q (.bl false) H1
noncomputable def Nr(ta tb:TE):TE:=fun σ H Q=>ta σ H λx H1=> ∃ c,x= .bl c/\if c=true then Q (.bl true) H1 else tb σ H1 Q
noncomputable def Fu(ta:TE):TE:=fun σ H Q=>ta σ H λx H1=> ∃ c,x= .bl c/\Q (.bl (!c)) H1
theorem HD{op}{t:TE}(h:PE X a t):PE X (.BoolOp op [a] pos) t:=λpins s σ H Q I hw=>BoolOp_one (h pins s σ H Q I hw)
theorem IQ(ha:PE X a ta)(hb:PE X (.BoolOp .And (b::rest) pos) tb):PE X (.BoolOp .And (a::b::rest) pos) (Fy ta tb):=by
 intro pins s σ H Q I h;refine BoolOp_and (cQ (ha pins s σ H _ I h) λv s1 ⟨x,H1,I1,r1,q1⟩=>?_);obtain⟨c,rfl,q1⟩:=q1;cases r1;refine wpAny_truthy_bool ?_;cases c with
 | true=>exact hb pins s1 σ H1 Q I1 q1
 | false=>exact⟨.bl false,H1,I1,rfl,q1⟩
theorem Mo(ha:PE X a ta)(hb:PE X (.BoolOp .Or (b::rest) pos) tb):PE X (.BoolOp .Or (a::b::rest) pos) (Nr ta tb):=by
 intro pins s σ H Q I h;refine BoolOp_or (cQ (ha pins s σ H _ I h) λv s1 ⟨x,H1,I1,r1,q1⟩=>?_);obtain⟨c,rfl,q1⟩:=q1;cases r1;refine wpAny_truthy_bool ?_;cases c with
 | false=>exact hb pins s1 σ H1 Q I1 q1
 | true=>exact⟨.bl true,H1,I1,rfl,q1⟩
theorem GA(ha:PE X a ta):PE X (.UnaryOp .Not a pos) (Fu ta):=by
 intro pins s σ H Q I h;refine UnaryOp_ (cQ (ha pins s σ H _ I h) λv s1 ⟨x,H1,I1,r1,q1⟩=>?_);obtain⟨c,rfl,q1⟩:=q1;cases r1;exact not_of (wpAny_truthy_bool ⟨.bl (!c),H1,I1,rfl,q1⟩)
noncomputable def PL(t:TT)(ta tb:TE):TE:=fun σ H Q=>t σ H λc H1=>if c=true then ta σ H1 Q else tb σ H1 Q
theorem AI{c:Expr}(hc:PT X c tA)(ha:PE X a ta)(hb:PE X b tb):PE X (.IfExp c a b pos) (PL tA ta tb):=by
 intro pins s σ H Q I h;refine wpAny_IfExp (cQ (hc pins s σ H _ I h) λd s1 ⟨H1,I1,q1⟩=>?_);cases d with
 | true=>exact ha pins s1 σ H1 Q I1 q1
 | false=>exact hb pins s1 σ H1 Q I1 q1
end
noncomputable def gi(K:PySem.W.Frag)(H:Hp)(a:Addr)(xs:List V):Prop :=
 Rd H a (.lst xs) \/
  ∃(o:Obj)(av:Array Value)(n:Nat),K.lookup a=some o/\o.cls= .type "list" /\o.dict=none/\o.data= .seq av n/\av.size<=sizeLine/\Vals xs av.toList
noncomputable def fe(K:PySem.W.Frag)(H:Hp)(a:Addr)(xs:List V):Prop :=
 Rd H a (.tup xs) \/
  ∃(o:Obj)(av:Array Value)(n:Nat),K.lookup a=some o/\o.cls= .type "tuple" /\o.data= .seq av n/\av.size<=sizeLine/\Vals xs av.toList
noncomputable def Pf:Value->Option V
 | .none=>some .non
 | .bool b=>some (.bl b)
 | .int i _=>some (.int i)
 | .str x _=>some (.str x)
 | .bytes b _=>some (.byt b)
 | .float b _=>some (.flt b)
 | .ref a=>some (.ref a)
 | .type n=>some (.ty n)
 | _=>none
theorem RelV.abs{x:V}{u:Value}(r:RelV x u):Pf u=some x:=by
 cases x with
 | non=>cases r;rfl
 | bl _=>cases r;rfl
 | int _=>obtain⟨t,rfl⟩:=r;rfl
 | str _=>obtain⟨t,rfl⟩:=r;rfl
 | byt _=>obtain⟨t,rfl⟩:=r;rfl
 | flt _=>obtain⟨t,rfl⟩:=r;rfl
 | ref _=>cases r;rfl
 | ty _=>cases r;rfl
theorem RelV.inj{x y:V}{u:Value}(r:RelV x u)(q:RelV y u):x=y:=Option.some.inj (r.abs.symm.trans q.abs)
theorem Vals.inj: ∀{xs ys:List V}{us:List Value},Vals xs us->Vals ys us->xs=ys
 | _,_,_,.nil,.nil=>rfl
 | _,_,_,.cons r t,.cons r' t'=>by rw[r.inj r',Vals.inj t t']
section
variable{X:Cx}{pins:List (Addr × Obj)}{σ :St}{H:Hp}{s:Shared}{a:Addr}{xs ys:List V}
theorem gi.of{K:PySem.W.Frag}(h:H a=some (.lst xs)):gi K H a xs:= .inl (.inl h)
theorem fe.of{K:PySem.W.Frag}(h:H a=some (.tup xs)):fe K H a xs:= .inl (.inl h)
theorem Inv.list(I:Inv X pins σ H s)(h:gi X.K H a xs): ∃ av:List Value,Vals xs av/\PlainL s.heap a av.toArray/\xs.length<=sizeLine:=by
 rcases h with h | ⟨o,av,n,hk,hc,hd,hs,hz,r⟩
 . obtain⟨z,av,n,r,e⟩:=h.ok I.bx;exact⟨av,r,⟨_,n,e,rfl,rfl,rfl⟩,z⟩
 . refine⟨av.toList,r,⟨o,n,I.ku a o hk,hc,hd,by simpa using hs⟩,?_⟩;have e:=r.length;simp only[Array.length_toList] at e;omega
theorem Inv.tuple(I:Inv X pins σ H s)(h:fe X.K H a xs): ∃ av:List Value,Vals xs av/\IsTup s.heap a av.toArray/\xs.length<=sizeLine:=by
 rcases h with h | ⟨o,av,n,hk,hc,hs,hz,r⟩
 . obtain⟨z,av,r,p⟩:=h.ok I.bx;exact⟨av,r,p.tup,z⟩
 . refine⟨av.toList,r,⟨o,I.ku a o hk,hc,n,by simpa using hs⟩,?_⟩;have e:=r.length;simp only[Array.length_toList] at e;omega
theorem Inv.Ax(I:Inv X pins σ H s)(h:gi X.K H a xs)(h':gi X.K H a ys):xs=ys:=by
 obtain⟨av,r,⟨o,n,e,_,_,d⟩,_⟩:=I.list h;obtain⟨its',r',⟨o',n',e',_,_,d'⟩,_⟩:=I.list h';rw[e] at e';cases e';rw[d] at d';injection d' with d1 _;have:av=its':=by simpa using congrArg Array.toList d1
 subst this;exact r.inj r'
theorem Inv.iK(I:Inv X pins σ H s)(h:fe X.K H a xs)(h':fe X.K H a ys):xs=ys:=by
 obtain⟨av,r,⟨o,e,_,n,d⟩,_⟩:=I.tuple h;obtain⟨its',r',⟨o',e',_,n',d'⟩,_⟩:=I.tuple h';rw[e] at e';cases e';rw[d] at d';injection d' with d1 _;have:av=its':=by simpa using congrArg Array.toList d1
 subst this;exact r.inj r'
end
abbrev Cx.lY(X:Cx)(E:Value->Shared->Prop):Cx:={ X with xe:=E }
abbrev Cx.oR(X:Cx):Cx:=X.lY λ_ _=>False
theorem Cx.Ok.lY{X:Cx}(ok:X.Ok)(E:Value->Shared->Prop):(X.lY E).Ok :=
 ⟨ok.mod,ok.kind,ok.glob,ok.blt,ok.above,ok.inj,ok.has,ok.KY,ok.hd,ok.frames,ok.M3,ok.Pg,ok.bs,ok.BZ,ok.xF,ok.Ak,ok.ky,ok.FQ⟩
theorem Cx.Ok.gb{X:Cx}{E:Value->Shared->Prop}(ok:(X.lY E).Ok):X.Ok :=
 ⟨ok.mod,ok.kind,ok.glob,ok.blt,ok.above,ok.inj,ok.has,ok.KY,ok.hd,ok.frames,ok.M3,ok.Pg,ok.bs,ok.BZ,ok.xF,ok.Ak,ok.ky,ok.FQ⟩
section
variable{X:Cx}{pins:List (Addr × Obj)}{σ :St}{H:Hp}{s:Shared}{E:Value->Shared->Prop}
theorem Inv.lY(I:Inv X pins σ H s)(E:Value->Shared->Prop):Inv (X.lY E) pins σ H s:=⟨I.ok.lY E,I.os,I.bare,I.base,I.loc,I.cell,I.free,I.iE,I.pin,I.bx,I.len⟩
theorem Inv.gb(I:Inv (X.lY E) pins σ H s):Inv X pins σ H s:=⟨I.ok.gb,I.os,I.bare,I.base,I.loc,I.cell,I.free,I.iE,I.pin,I.bx,I.len⟩
theorem SP.gb{D:Ends}{f:Flow}{s':Shared}(h:SP (X.lY E) pins D f s'):SP X pins D f s':=by
 cases f with
 | next=>obtain ⟨σ',H',I,q⟩:=h;exact ⟨σ',H',I.gb,q⟩
 | brk=>obtain ⟨σ',H',I,q⟩:=h;exact ⟨σ',H',I.gb,q⟩
 | cont=>obtain ⟨σ',H',I,q⟩:=h;exact ⟨σ',H',I.gb,q⟩
 | ret u=>obtain ⟨v, σ',H',I,r,q⟩:=h;exact ⟨v, σ',H',I.gb,r,q⟩
theorem PE.oR {e:Expr} {t:TE} (h:PE X.oR e t):PE X e t:=λpins s σ H Q I hw =>
 wpAny_mono (h pins s σ H Q (I.lY _) hw) (λ_ _ ⟨v,H',I',r,q⟩=>⟨v,H',I'.gb,r,q⟩) λ_ _ z=>False.elim z
theorem PT.oR {e:Expr} {t:TT} (h:PT X.oR e t):PT X e t:=λpins s σ H Q I hw =>
 wpAny_mono (h pins s σ H Q (I.lY _) hw) (λ_ _ ⟨H',I',q⟩=>⟨H',I'.gb,q⟩) λ_ _ z=>False.elim z
theorem uC.oR{st:List Stmt}{t:TS}(h:uC X.oR st t):uC X st t:=λpins s σ H D I hw =>
 wpAny_mono (h pins s σ H D (I.lY _) hw) (λ_ _ q=>q.gb) λ_ _ z=>False.elim z
end
section
variable{X:Cx}{st:Stmt}{rest:List Stmt}{t u:TS}{e:Expr}{te:TE}{pos:Pos}
noncomputable def yT:TS:=λD σ H=>D.nx σ H
noncomputable def JB(t u:TS):TS:=λD σ H=>t { D with nx:=u D } σ H
theorem Eh:uC X [] yT:=λ_ _ σ H _ I h=>wpAny_execs_nil ⟨σ,H,I,h⟩
theorem AO(h1:PS X st t)(h2:uC X rest u):uC X (st::rest) (JB t u):=by
 intro pins s σ H D I h;refine wpAny_execs_cons (cQ (h1 pins s σ H { D with nx:=u D } I h) λf s1 q=>?_);cases f with
 | next =>
  obtain⟨σ',H',I',q⟩:=q
  exact h2 pins s1 σ' H' D I' q
 | ret v=>exact q
 | brk=>exact q
 | cont=>exact q
theorem E3(h1:PS X st t):uC X [st] t:=by
 intro pins s σ H D I h;refine wpAny_execs_cons (cQ (h1 pins s σ H D I h) λf s1 q=>?_);cases f with
 | next=>exact wpAny_execs_nil q
 | ret v=>exact q
 | brk=>exact q
 | cont=>exact q
theorem Inv.quiet{pins:List (Addr × Obj)}{σ :St}{H:Hp}{s:Shared}(I:Inv X pins σ H s):interactive X.env=false:=by simp[interactive,I.ok.kind]
noncomputable def FT(te:TE):TS:=λD σ H=>te σ H λ_ H1=>D.nx σ H1
theorem C3(he:PE X e te)(hs:swapsWith e none pos.line X.env=pure false:=by rfl):PS X (.Expr e pos) (FT te):=by
 intro pins s σ H D I h;exact wpAny_Expr_any (cQ (he pins s σ H _ I h) λv s1 ⟨x,H1,I1,r1,q1⟩=>⟨σ,H1,I1,q1⟩) I.quiet hs
noncomputable def LN (te:TE):TS:=λD σ H=>te σ H D.rt
theorem GN (he:PE X e te):PS X (.Return (some e) pos) (LN te):=by
 intro pins s σ H D I h;exact wpAny_Return_some (cQ (he pins s σ H _ I h) λv s1 ⟨x,H1,I1,r1,q1⟩=>⟨x, σ,H1,I1,r1,q1⟩)
noncomputable def NO (c:TT) (t u:TS):TS:=λD σ H=>c σ H λb H1=>if b=true then t D σ H1 else u D σ H1
theorem MY {c:Expr} {a b:List Stmt} {tc:TT} (hc:PT X c tc) (ha:uC X a t) (hb:uC X b u):PS X (.If c a b pos) (NO tc t u):=by
 intro pins s σ H D I h;refine wpAny_If (cQ (hc pins s σ H _ I h) λd s1 ⟨H1,I1,q1⟩=>?_);cases d with
 | true=>exact ha pins s1 σ H1 D I1 q1
 | false=>exact hb pins s1 σ H1 D I1 q1
end
abbrev TG:=V->St->Hp->(St->Hp->Prop)->Prop
abbrev p6:=List V->St->Hp->(St->Hp->Prop)->Prop
noncomputable def PG(X:Cx)(target:Expr)(t:TG):Prop :=
 ∀(pins:List (Addr × Obj))(s:Shared)(σ :St)(H:Hp)(v:V)(u:Value)(Q:St->Hp->Prop),Inv X pins σ H s->RelV v u->t v σ H Q ->
  wpAny (model X.prog X.w) X.A (assign target X.env u) (λ_ s'=> ∃ σ' H',Inv X pins σ' H' s'/\Q σ' H') X.xe s
noncomputable def Nx(X:Cx)(ts:List Expr)(t:p6):Prop :=
 ∀(pins:List (Addr × Obj))(s:Shared)(σ :St)(H:Hp)(vs:List V)(us:List Value)(Q:St->Hp->Prop),Inv X pins σ H s->Vals vs us->t vs σ H Q ->
  wpAny (model X.prog X.w) X.A (assignInOrder ((assignEach ts X.env).map (·.2)) us) (λ_ s'=> ∃ σ' H',Inv X pins σ' H' s'/\Q σ' H') X.xe s
abbrev zA:=V->V->V->Hp->(Hp->Prop)->Prop
noncomputable def oI(X:Cx)(t:zA):Prop :=
 ∀(pins:List (Addr × Obj))(s:Shared)(σ :St)(H:Hp)(o i v:V)(ov iv u:Value)(Q:Hp->Prop),Inv X pins σ H s->RelV o ov->RelV i iv->RelV v u->t o i v H Q ->
  wpAny (model X.prog X.w) X.A (setItem ov iv u) (λ_ s'=> ∃ H',Inv X pins σ H' s'/\Q H') X.xe s
section
variable{X:Cx}{pos:Pos}
noncomputable def fj(i:Nat):TG:=λv σ H Q=>Q (σ.set i (some v)) H
theorem C9{i:Nat}{x:Str}(hN:X.N.Nodup)(hi:X.N[i]?=some x)(hx:Loc X.env.scope x)(hf:X.fn x=true\/X.env.scope.names.lookup x=some .local:=by first | exact .inl rfl | exact .inr rfl | assumption):PG X (.Name x pos) (fj i):=by
 intro pins s σ H v u Q I r h;exact wpAny_assign_Name (sS I hN hi hx r (λs' I'=>⟨_,H,I',h⟩) hf)
noncomputable def yg:p6:=λvs σ H Q=>vs=[]/\Q σ H
noncomputable def lF(t:TG)(u:p6):p6:=λvs σ H Q=> ∃ v r,vs=v::r/\t v σ H fun σ' H'=>u r σ' H' Q
theorem Dw:Nx X [] yg:=by
 intro pins s σ H vs us Q I r h;obtain⟨e,h⟩:=h;subst e;cases r;exact assignInOrder_nil ⟨σ,H,I,h⟩
theorem zM{e:Expr}{es:List Expr}{t:TG}{u:p6}(h1:PG X e t)(h2:Nx X es u)
  (hs:(assignEach (e::es) X.env).map (·.2)=assign e X.env::(assignEach es X.env).map (·.2):=by rfl):Nx X (e::es) (lF t u):=by
 intro pins s σ H vs us Q I r h;obtain⟨v,vr,e1,h⟩:=h;subst e1;cases r with
 | cons r rr =>
  rw[hs]
  refine assignInOrder_cons (cQ (h1 pins s σ H _ _ _ I r h) λ_ s1 ⟨σ1,H1,I1,q1⟩=>?_)
  exact h2 pins s1 σ1 H1 _ _ Q I1 rr q1
noncomputable def uO(K:PySem.W.Frag)(n:Nat)(t:p6):TG:=λv σ H Q=> ∃ a xs,v= .ref a/\fe K H a xs/\xs.length=n/\t xs σ H Q
theorem Io{es:List Expr}{k:Nat}{t:p6}{n:Nat}(hc:X.calm=true)(h:Nx X es t)
  (hn:(assignEach es X.env).length=n:=by rfl) (hst:(assignEach es X.env).findIdx? (·.1)=none:=by rfl):PG X (.Tuple es k pos) (uO X.K n t):=by
 intro pins s σ H v u Q I r hw;obtain⟨a,xs,e1,hq,hl,hw⟩:=hw;subst e1;cases r;obtain⟨av,rv,ht,hz⟩:=I.tuple hq;refine assign_Tuple_tuple (I.ok.hd hc) ht (by simp[hn,<- hl,rv.length]) hst λh' hx=>?_;have I1:Inv X pins σ H { s with heap:=h' }:=I.kept (t':=s.toks) λb o e=>hx b o (Nat.ne_of_lt (Heap.lt_size e)) e;exact h pins _ σ H xs _ Q I1 (by simpa using rv) hw
noncomputable def OM(to ti:TE)(t:zA):TG:=λv σ H Q=>to σ H λo H1=>ti σ H1 λi H2=>t o i v H2 λH3=>Q σ H3
theorem Je{o i:Expr}{to ti:TE}{t:zA}(ho:PE X o to)(hi:PE X i ti)(hs:oI X t)
  (ha: ∀ v,assign (.Subscript o i pos) X.env v=(do
   let ov <- holding [v] (eval o X.env)
   let iv <- holding [v,ov] (eval i X.env)
   standAt pos
   holding [v,ov,iv] (setItem ov iv v)
   release [v,ov,iv] []):=by intro _;rfl):PG X (.Subscript o i pos) (OM to ti t):=by
 intro pins s σ H v u Q I r h;rw[ha];refine wpAny_bind (wpAny_holding (cQ (ho pins s σ H _ I h) λov s1 ⟨x,H1,I1,r1,q1⟩=>?_));refine wpAny_bind (wpAny_holding (cQ (hi pins s1 σ H1 _ I1 q1) λiv s2 ⟨y,H2,I2,r2,q2⟩=>?_));refine wpAny_bind (wpAny_standAt (wpAny_bind (wpAny_holding (cQ (hs pins s2 σ H2 x y v ov iv u _ I2 r1 r2 r q2) λ_ s3 ⟨H3,I3,q3⟩=>?_))));exact wpAny_release ⟨σ,H3,I3,q3⟩
noncomputable def DK(te:TE)(g:TG):TS:=λD σ H=>te σ H λx H1=>g x σ H1 D.nx
theorem Iu{tg e:Expr}{te:TE}{g:TG}(he:PE X e te)(hg:PG X tg g)(hs:swapsWithSole [tg] e pos.line X.env=pure false:=by rfl)(hw:swappedStores [tg] e X.env=pure none:=by rfl)
  (h1:(assignEach [tg] X.env).map (·.2)=[assign tg X.env]:=by rfl):PS X (.Assign [tg] e pos) (DK te g):=by
 intro pins s σ H D I h;refine wpAny_Assign_stores (cQ (he pins s σ H _ I h) λv s1 ⟨x,H1,I1,r1,q1⟩=>?_) hs hw;rw[h1];exact cQ (hg pins s1 σ H1 x v _ I1 r1 q1) λ_ s2 q=>q
theorem IY{i:Nat}{x:Str}{e:Expr}{te:TE}{pos':Pos}(hN:X.N.Nodup)(hi:X.N[i]?=some x)(hx:Loc X.env.scope x)(he:PE X e te)(hs:swapsWith e (some (.Name x pos')) pos.line X.env=pure false:=by rfl)(hf:X.fn x=true\/X.env.scope.names.lookup x=some .local:=by first | exact .inl rfl | exact .inr rfl | assumption) :
  PS X (.Assign [.Name x pos'] e pos) (DK te (fj i)):=by
 intro pins s σ H D I h;refine wpAny_Assign_Name (cQ (he pins s σ H _ I h) λv s1 ⟨y,H1,I1,r1,q1⟩=>?_) hs;exact sS I1 hN hi hx r1 (λs2 I2=>⟨_,H1,I2,q1⟩) hf
end
section
variable{X:Cx}{pos:Pos}
noncomputable def Bv(c:TT)(tb:TS):TS:=λD σ H=> ∃ W:Nat->St->Hp->Prop,(∃ m,W m σ H)/\ ∀ m σ H,W m σ H ->
 c σ H λb H1=>if b=true then ∃ N:St->Hp->Prop,(∀ σ' H',N σ' H'-> ∃ m',m' < m/\W m' σ' H')/\tb { D with nx:=N,ct:=N,bk:=D.nx } σ H1 else D.nx σ H1
theorem zO{c:Expr}{body:List Stmt}{tc:TT}{tb:TS}(hp:PassesOwn (model X.prog X.w) X.A X.env X.xe)(hc:PT X c tc)(hb:uC X body tb):PS X (.While c body [] pos) (Bv tc tb):=by
 intro pins s σ H D I h;obtain⟨W,⟨m0,w0⟩,turn⟩:=h;refine wpAny_While (codeAny_whileLoop (λn s'=> ∃ σ' H',Inv X pins σ' H' s'/\W n σ' H') ?_ m0 ⟨σ,H,I,w0⟩);rintro n s1 ⟨σ1,H1,I1,w1⟩;refine wpAny_passesOwn hp (cQ (hc pins s1 σ1 H1 _ I1 (turn n σ1 H1 w1)) λb s2 ⟨H2,I2,q2⟩=>?_);cases b with
 | true =>
  obtain⟨N,hN,q2⟩:=q2
  rw[if_pos rfl]
  refine wpAny_passesOwn hp (cQ (hb pins s2 σ1 H2 _ I2 q2) λf s3 q3=>?_)
  cases f with
  | next =>
   obtain ⟨σ3,H3,I3,n3⟩:=q3
   obtain ⟨m',hm,w3⟩:=hN σ3 H3 n3
   exact ⟨m',hm, σ3,H3,I3,w3⟩
  | cont =>
   obtain ⟨σ3,H3,I3,n3⟩:=q3
   obtain ⟨m',hm,w3⟩:=hN σ3 H3 n3
   exact ⟨m',hm, σ3,H3,I3,w3⟩
  | brk=>exact q3
  | ret v=>exact q3
 | false =>
  rw[if_neg Bool.false_ne_true]
  exact wpAny_execs_nil ⟨σ1,H2,I2,q2⟩
end
structure It where
 go:Nat->Hp->Prop
 K5:Nat->Hp->V->Hp->Prop
 stop:Nat->Hp->Prop
noncomputable def lW(X:Cx)(pins:List (Addr × Obj))(H:Hp)(b:Addr):Prop :=
 H b=none/\b≠X.env.locals/\b ∉ X.fs/\(b∈X.ex\/X.s₀.heap.objs.size<=b)/\(∀ x c,X.env.cells.lookup x=some c->c≠b)/\ ∀ p∈X.pn++pins,p.1≠b
theorem Inv.Ey{X:Cx}{pins:List (Addr × Obj)}{σ :St}{H H':Hp}{s:Shared}{b:Addr}(I:Inv X pins σ H s)(hb:s.heap.objs.size<=b)(hn:H' b=none):lW X pins H' b:=by
 refine⟨hn,Nat.ne_of_gt (Nat.lt_of_lt_of_le I.lt hb),I.NR hb,.inr (Nat.le_trans I.sz hb),λx c e z=>?_,λp hp z=>?_⟩
 . obtain⟨v,q⟩:=I.cell x c e;exact absurd (Nat.lt_of_lt_of_le q.lt (by rw[z];exact hb)) (Nat.lt_irrefl _)
 . exact absurd (Nat.lt_of_lt_of_le (Heap.lt_size (I.pin p hp).1) (by rw[z];exact hb)) (Nat.lt_irrefl _)
structure Turn(P:Program)(w:World)(K:PySem.W.Frag)(tg:Expr)(J:It)(fp:List Addr)(it:Addr)(tn:Nat->Heap->Prop):Prop where
 mem:it∈fp
 obj: ∀ i h,tn i h-> ∀ b∈fp,∃ o,h.get? b=some o/\ ∀ v,o.data≠ .cell v
 keep: ∀ i h h',tn i h->(∀ b∈fp,∀ o,h.get? b=some o->h'.get? b=some o)->tn i h'
 item: ∀(X:Cx),X.prog=P->X.w=w->X.K=K->X.calm=true-> ∀(i:Nat)(pins:List (Addr × Obj))(s:Shared)(σ :St)(H:Hp)(E:Value->Shared->Prop),Inv X pins σ H s->(∀ b∈fp,lW X pins H b)->tn i s.heap->J.go i H ->
  wpAny (model P w) X.A (pyNext (.ref it)) (λr s1=> ∃ u,r=some u /\
   wpAny (model P w) X.A (letOwnedTupleGo tg (.ref it) u) (λ_ s2=> ∃ x H',Inv X pins σ H' s2/\RelV x u/\J.K5 i H x H'/\tn (i+1) s2.heap/\ ∀ b∈fp,H' b=none) E s1) E s
 done: ∀(X:Cx),X.prog=P->X.w=w->X.K=K->X.calm=true-> ∀(i:Nat)(pins:List (Addr × Obj))(s:Shared)(σ :St)(H:Hp)(E:Value->Shared->Prop),Inv X pins σ H s->(∀ b∈fp,lW X pins H b)->tn i s.heap->J.stop i H ->
  wpAny (model P w) X.A (pyNext (.ref it)) (λr s1=>r=none/\Inv X pins σ H s1) E s
 self: ∀(A:Around)(i:Nat)(s:Shared)(Q:Value->Shared->Prop)(E:Value->Shared->Prop),tn i s.heap->Q (.ref it) s->wpAny (model P w) A (pyIter (.ref it)) Q E s
abbrev TI:=St->Hp->(It->Hp->Prop)->Prop
noncomputable def MQ(X:Cx)(pins:List (Addr × Obj))(σ :St)(tg:Expr)(R:It->Hp->Prop)(itv:Value)(s2:Shared):Prop :=
 ∃(it:Addr)(fp:List Addr)(tn:Nat->Heap->Prop)(J:It)(H':Hp),itv= .ref it/\Inv X pins σ H' s2/\Turn X.prog X.w X.K tg J fp it tn/\tn 0 s2.heap/\(∀ b∈fp,lW X pins H' b)/\R J H'
noncomputable def PI(X:Cx)(tg iter:Expr)(wi:TI):Prop :=
 ∀ (pins:List (Addr × Obj)) (s:Shared) (σ :St) (H:Hp) (R:It->Hp->Prop),Inv X pins σ H s->wi σ H R ->
  wpAny (model X.prog X.w) X.A (eval iter X.env) (λv s1=>wpAny (model X.prog X.w) X.A (pyIter v) (MQ X pins σ tg R) X.xe s1) X.xe s
theorem wG {M : Model} {A : Around} {E : Value -> Shared -> Prop} {s : Shared} {tg : Expr} {it : Addr} {u : Value} {o : Obj} {n : String} {vs : Array Value} {Q : Unit -> Shared -> Prop} (ho : s.heap.get? it = some o) (hc : o.cls = .type n) (hd : o.data = .fields vs)
    (hn : ["enumerate", "zip", "dict_itemiterator", "dict_reverseitemiterator", "odict_iterator", "itertools.zip_longest", "itertools.pairwise"].contains n = false) (hQ : Q () s) : wpAny M A (letOwnedTupleGo tg (.ref it) u) Q E s := by
  unfold letOwnedTupleGo;cases tg <;> first
    | exact wpAny_pure hQ
    | (cases u <;> first
        | exact wpAny_pure hQ
        | (refine wpAny_bind (wpAny_load ho ?_)
           rw [hc, hd]
           show wpAny M A (if (["enumerate", "zip", "dict_itemiterator", "dict_reverseitemiterator", "odict_iterator", "itertools.zip_longest", "itertools.pairwise"].contains n && vs[0]? == some (rawInt _)) = true then _ else _) Q E s
           rw [if_neg (by intro h; rw [hn, Bool.false_and] at h; cases h)]
           exact wpAny_pure hQ))
noncomputable def Pe (K:PySem.W.Frag) (a:Addr):It :=
 ⟨λi H=> ∃ xs x,gi K H a xs∧xs[i]?=some x,λi H x H'=>H'=H∧ ∀ xs,gi K H a xs->xs[i]?=some x,λi H=> ∃ xs,gi K H a xs∧xs.length<=i⟩
noncomputable def N2(K:PySem.W.Frag)(a:Addr):It :=
 ⟨λi H=> ∃ xs x,fe K H a xs/\xs[i]?=some x,λi H x H'=>H'=H/\ ∀ xs,fe K H a xs->xs[i]?=some x,λi H=> ∃ xs,fe K H a xs/\xs.length<=i⟩
noncomputable def Oc(lo:Int)(n:Nat):It:=⟨λi _=>i < n,λi H x H'=>H'=H/\x= .int (lo+i),λi _=>n<=i⟩
theorem xH{P:Program}{w:World}{K:PySem.W.Frag}{tg:Expr}(a it:Addr):Turn P w K tg (Pe K a) [it] it (λi h=>h.IsListIter it a i) where
 mem:=by simp
 obj:=λi h st b hb=>by
  have e:b=it:=by simpa using hb
  subst e;obtain⟨o,e,c,d⟩:=st;exact⟨o,e,λv z=>by rw[d] at z;cases z⟩
 keep:=λi h h' st k=>st.at λo e=>k it (by simp) o e
 item:=by
  intro X hP hw hK hc i pins s σ H E I hf st hg;subst hP hw hK;obtain⟨xs,x,hq,hx⟩:=hg;obtain⟨av,rv,p,hz⟩:=I.list hq;obtain⟨u,hu,ru⟩:=rv.get hx;obtain⟨f0,f1,f2,f3,f4,f5⟩:=hf it (by simp);refine wpAny_pyNext_list_item st p.isList (x:=u) (by simpa using hu) λh' st' sb=>?_;have I1:Inv X pins σ H { s with heap:=h' }:=I.turned (t':=s.toks) (λb o hb e=>(sb.2 b hb).trans e) f0 f1 f3 f4 f5;obtain⟨o,e,c,d⟩:=id st';exact⟨u,rfl,wG (s:={ s with heap:=h' }) e c d (by decide) ⟨x,H,I1,ru,⟨rfl,λys hy=>by rw[I.Ax hy hq];exact hx⟩,st',λb hb=>(hf b hb).1⟩⟩
 done:=by
  intro X hP hw hK hc i pins s σ H E I hf st hg;subst hP hw hK;obtain⟨xs,hq,hx⟩:=hg;obtain⟨av,rv,p,hz⟩:=I.list hq;obtain⟨f0,f1,f2,f3,f4,f5⟩:=hf it (by simp);have hl:=rv.length;exact wpAny_pyNext_list_end (I.ok.hd hc) st p.isList (by simp;omega) λh' eb=>⟨rfl,I.turned (t':=s.toks) (λb o hb e=>eb b o hb e) f0 f1 f3 f4 f5⟩
 self:=λ_ _ _ _ _ st h=>wpAny_pyIter_listiter st h
theorem uW{P:Program}{w:World}{K:PySem.W.Frag}{tg:Expr}(a it:Addr):Turn P w K tg (N2 K a) [it] it (λi h=>h.IsTupleIter it a i) where
 mem:=by simp
 obj:=λi h st b hb=>by
  have e:b=it:=by simpa using hb
  subst e;obtain⟨o,e,c,d⟩:=st;exact⟨o,e,λv z=>by rw[d] at z;cases z⟩
 keep:=λi h h' st k=>st.at λo e=>k it (by simp) o e
 item:=by
  intro X hP hw hK hc i pins s σ H E I hf st hg;subst hP hw hK;obtain⟨xs,x,hq,hx⟩:=hg;obtain⟨av,rv,p,hz⟩:=I.tuple hq;obtain⟨u,hu,ru⟩:=rv.get hx;obtain⟨f0,f1,f2,f3,f4,f5⟩:=hf it (by simp);refine wpAny_pyNext_tuple_item st (show s.heap.IsTuple a av.toArray from p) (x:=u) (by simpa using hu) λh' st' sb=>?_;have I1:Inv X pins σ H { s with heap:=h' }:=I.turned (t':=s.toks) (λb o hb e=>(sb.2 b hb).trans e) f0 f1 f3 f4 f5;obtain⟨o,e,c,d⟩:=id st';exact⟨u,rfl,wG (s:={ s with heap:=h' }) e c d (by decide) ⟨x,H,I1,ru,⟨rfl,λys hy=>by rw[I.iK hy hq];exact hx⟩,st',λb hb=>(hf b hb).1⟩⟩
 done:=by
  intro X hP hw hK hc i pins s σ H E I hf st hg;subst hP hw hK;obtain⟨xs,hq,hx⟩:=hg;obtain⟨av,rv,p,hz⟩:=I.tuple hq;obtain⟨f0,f1,f2,f3,f4,f5⟩:=hf it (by simp);have hl:=rv.length;exact wpAny_pyNext_tuple_end (I.ok.hd hc) st (show s.heap.IsTuple a av.toArray from p) (by simp;omega) λh' eb=>⟨rfl,I.turned (t':=s.toks) (λb o hb e=>eb b o hb e) f0 f1 f3 f4 f5⟩
 self:=λ_ _ _ _ _ st h=>wpAny_pyIter_tupleiter st h
theorem uc{P:Program}{w:World}{K:PySem.W.Frag}{tg:Expr}(it:Addr)(lo:Int)(n:Nat):Turn P w K tg (Oc lo n) [it] it (λi h=>IsRangeIter h it (lo+(i:Nat)*1) ((n:Int) - (i:Nat)) 1) where
 mem:=by simp
 obj:=λi h st b hb=>by
  have e:b=it:=by simpa using hb
  subst e;exact⟨_,st,λv z=>by
   have z':Data.fields _=Data.cell v:=z;cases z'⟩
 keep:=λi h h' st k=>k it (by simp) _ st
 item:=by
  intro X hP hw hK hc i pins s σ H E I hf st hg;subst hP hw hK;obtain⟨f0,f1,f2,f3,f4,f5⟩:=hf it (by simp);have W:=Walks.range (prog:=X.prog) (w:=X.w) (I.ok.hd hc) it lo 1 n;refine W.item i s _ _ hg st λv h' tk hv st' kk=>?_;obtain⟨t,rfl⟩:=hv;have I1:Inv X pins σ H { s with heap:=h',toks:=tk }:=I.turned (λb o hb e=>kk b o (by simpa using hb) e) f0 f1 f3 f4 f5;refine⟨_,rfl,wG (s:={ s with heap:=h',toks:=tk }) (n:= "range_iterator") st' rfl rfl (by decide) ⟨.int (lo+i),H,I1,⟨t,?_⟩,⟨rfl,rfl⟩,st',λb hb=>(hf b hb).1⟩⟩;rw[Int.mul_one]
 done:=by
  intro X hP hw hK hc i pins s σ H E I hf st hg;subst hP hw hK;obtain⟨f0,f1,f2,f3,f4,f5⟩:=hf it (by simp);exact wpAny_pyNext_range_end (I.ok.hd hc) st (by have:n<=i:=hg;omega) λh' eb=>⟨rfl,I.turned (t':=s.toks) (λb o hb e=>eb b o hb e) f0 f1 f3 f4 f5⟩
 self:=λ_ _ _ _ _ st h=>wpAny_pyIter_rangeiter st h
section
variable{X:Cx}{tg:Expr}
theorem yB{pins:List (Addr × Obj)}{σ :St}{H:Hp}{s:Shared}{R:It->Hp->Prop}{E:Value->Shared->Prop}{lo hi:Int}{t u v:Tok}{tk:Nat}(I:Inv X pins σ H s)(h1: -(2 ^ 62)<=lo)(h2:lo < 2 ^ 62)(h3: -(2 ^ 62)<=hi)(h4:hi < 2 ^ 62)
  (q:R (Oc lo (hi - lo).toNat) H):wpAny (model X.prog X.w) X.A (pyIter (.ref s.heap.objs.size)) (MQ X pins σ tg R) E { s with heap:=s.heap.push { cls:= .type "range",data:= .fields #[.int lo t,.int hi u,.int 1 v] },toks:=tk }:=by
 refine wpAny_pyIter_range (IsRange.new ..) (small_one h1 h2 h3 h4) ?_;have I1:Inv X pins σ H { s with heap:=s.heap.push { cls:= .type "range",data:= .fields #[.int lo t,.int hi u,.int 1 v] },toks:=tk }:=I.kept λb o e=>Heap.get?_push_of_some _ e;refine⟨(s.heap.push { cls:= .type "range",data:= .fields #[.int lo t,.int hi u,.int 1 v] }).objs.size,[(s.heap.push { cls:= .type "range",data:= .fields #[.int lo t,.int hi u,.int 1 v] }).objs.size],_,_,H,rfl,
  I1.kept (t':=tk) λb o e=>Heap.get?_push_of_some _ e,uc _ lo (hi - lo).toNat,?_,λb hb=>?_,q⟩
 . have e1:lo+((0:Nat):Int)*1=lo:=by simp
   have e2:(((hi - lo).toNat:Nat):Int) - ((0:Nat):Int)=Builtin.Range.rangeSize lo hi 1:=by rw[rangeSize_one];split<;>omega
   show IsRangeIter _ _ (lo+((0:Nat):Int)*1) ((((hi - lo).toNat:Nat):Int) - ((0:Nat):Int)) 1;rw[e1,e2];exact Heap.get?_push_size _ rfl
 . have e:b=(s.heap.push { cls:= .type "range",data:= .fields #[.int lo t,.int hi u,.int 1 v] }).objs.size:=by simpa using hb
   subst e;exact I1.Ey (Nat.le_refl _) (I1.bx.fresh (Nat.le_refl _))
noncomputable def LV(ta:TA):TI:=fun σ H R=>ta σ H λvs H1=> ∃ j:Int,vs=[.int j]/\ -(2 ^ 62)<=j/\j < 2 ^ 62/\R (Oc 0 j.toNat) H1
theorem xp{a:Expr}{ta:TA}{p pos:Pos}(hg:Gl X "range")(hm:X.mg "range" =none)(ha:PA X [a] ta)(hs:starEach [a] X.env=[(false,eval a X.env)]:=by rfl):PI X tg (.Call (.Name "range" p) [a] [] pos) (LV ta):=by
 intro pins s σ H R I h;refine Call_ (kQ I hg hm boot_range (PyProof.Rows.callWith_type1 (cQ (ha pos pins s σ H _ I h) λus s1 ⟨vs,H1,I1,r1,q1⟩=>?_) hs rfl));obtain⟨j,e,q1,q2,q⟩:=q1;subst e;cases r1 with
 | cons r rr =>
  cases rr
  obtain⟨t,rfl⟩:=r
  exact call_range_1 (yB I1 (by omega) (by omega) q1 q2 (by simpa using q))
noncomputable def MN(wi:TI)(g:TG)(tb:TS):TS:=λD σ H=>wi σ H λJ H1=> ∃ W:Nat->Nat->St->Hp->Prop,(∃ m,W 0 m σ H1)/\ ∀ i m σ H,W i m σ H ->
 (J.stop i H/\D.nx σ H)\/(J.go i H/\ ∃ N:St->Hp->Prop,(∀ σ' H',N σ' H'-> ∃ m',m' < m/\W (i+1) m' σ' H')/\ ∀ x H',J.K5 i H x H'->g x σ H' fun σ2 H2=>tb { D with nx:=N,ct:=N,bk:=D.nx } σ2 H2)
noncomputable def qe(fp:List Addr)(h:Heap):List (Addr × Obj):=fp.filterMap λb=>(h.get? b).map λo=>(b,o)
theorem dY{fp:List Addr}{h:Heap}{b:Addr}{o:Obj}(hb:b∈fp)(e:h.get? b=some o):(b,o)∈qe fp h:=List.mem_filterMap.mpr ⟨b,hb,by rw[e];rfl⟩
theorem yn{fp:List Addr}{h:Heap}{p:Addr × Obj}(hp:p∈qe fp h):p.1∈fp/\h.get? p.1=some p.2:=by
 obtain⟨b,hb,e⟩:=List.mem_filterMap.mp hp;cases q:h.get? b with
 | none=>rw[q] at e;cases e
 | some o =>
  rw[q] at e
  have e':(b,o)=p:=Option.some.inj e
  subst e'
  exact⟨hb,q⟩
theorem Inv.pinned{pins:List (Addr × Obj)}{σ :St}{H:Hp}{s:Shared}{fp:List Addr}(I:Inv X pins σ H s)(hf: ∀ b∈fp,lW X pins H b)(ho: ∀ b∈fp,∃ o,s.heap.get? b=some o/\ ∀ v,o.data≠ .cell v):Inv X (pins++qe fp s.heap) σ H s :=
 I.iO λp hp=>(List.mem_append.mp hp).elim (λz=>I.pin p (List.mem_append_right _ z)) λz=>by
  obtain⟨hb,e⟩:=yn z;obtain⟨f0,f1,f2,_⟩:=hf p.1 hb;obtain⟨o,e',d⟩:=ho p.1 hb;rw[e] at e';cases e';exact⟨e,f0,f1,f2,d⟩
theorem Inv.mZ{pins pl:List (Addr × Obj)}{σ :St}{H:Hp}{s:Shared}(I:Inv X (pins++pl) σ H s):Inv X pins σ H s:=I.iO λp hp=>I.pin p (List.mem_append_right _ (List.mem_append_left _ hp))
theorem HS{iter:Expr}{body:List Stmt}{wi:TI}{g:TG}{tb:TS}{pos:Pos}(hp:PassesOwn (model X.prog X.w) X.A X.env X.xe)(hc:X.calm=true)(hi:PI X tg iter wi)(hg:PG X tg g)(hb:uC X body tb)
  (hs: ∀ x,foldedSetIterable iter X.env x=pure x:=by intro _;rfl):PS X (.For tg iter body [] pos) (MN wi g tb):=by
 intro pins s σ H D I h;refine wpAny_For (cQ (hi pins s σ H _ I h) λv s1 h1=>cQ h1 λitv s2 h2=>?_) hs;obtain ⟨it,fp,tn,J,H2,e,I2,T,st2,f2,W,⟨m0,w0⟩,turn⟩:=h2;subst e;have stat: ∀ {H':Hp},(∀ b∈fp,H' b=none)-> ∀ b∈fp,lW X pins H' b:=λhn b hb=>⟨hn b hb,(f2 b hb).2⟩
 refine codeAny_forLoop_any (λn s'=> ∃ i σ' H',Inv X pins σ' H' s'∧tn i s'.heap∧(∀ b∈fp,H' b=none)∧W i n σ' H') ?_ m0 ⟨0, σ,H2,I2,st2,λb hb=>(f2 b hb).1,w0⟩;rintro n s3 ⟨i, σ3,H3,I3,st3,fr3,w3⟩;rcases turn i n σ3 H3 w3 with ⟨stop,qn⟩ | ⟨go,N,hN,step⟩
 . refine wpAny_passesOwn hp (cQ (T.done X rfl rfl rfl hc i pins s3 σ3 H3 X.xe I3 (stat fr3) st3 stop) λr s4 ⟨hr,I4⟩=>?_);subst hr;exact wpAny_execs_nil ⟨σ3,H3,I4,qn⟩
 . refine wpAny_passesOwn hp (cQ (T.item X rfl rfl rfl hc i pins s3 σ3 H3 X.xe I3 (stat fr3) st3 go) λr s4 ⟨u,hr,h4⟩=>?_);subst hr;refine wpAny_passesOwn hp (cQ h4 λ_ s5 ⟨x,H5,I5,r5,y5,st5,fr5⟩=>?_);have I5':=I5.pinned (stat fr5) (T.obj _ _ st5);refine wpAny_passesOwn hp (cQ (hg _ s5 σ3 H5 x u _ I5' r5 (step x H5 y5)) λ_ s6 ⟨σ6,H6,I6,q6⟩=>?_);refine wpAny_passesOwn hp (cQ (hb _ s6 σ6 H6 _ I6 q6) λf s7 q7=>?_);have again: ∀ {σ7:St} {H7:Hp},Inv X (pins++qe fp s5.heap) σ7 H7 s7->N σ7 H7-> ∃ m,m < n∧ ∃ i σ' H',Inv X pins σ' H' s7∧tn i s7.heap∧(∀ b∈fp,H' b=none)∧W i m σ' H':=λ{σ7 H7} I7 n7=>by
    obtain ⟨m',hm,w7⟩:=hN σ7 H7 n7;refine ⟨m',hm,i+1, σ7,H7,I7.mZ,T.keep _ _ _ st5 λb hb o e=>(I7.pin (b,o) (List.mem_append_right _ (List.mem_append_right _ (dY hb e)))).1,λb hb=>?_,w7⟩;obtain ⟨o,e,d⟩:=T.obj _ _ st5 b hb;exact (I7.pin (b,o) (List.mem_append_right _ (List.mem_append_right _ (dY hb e)))).2.1
   cases f with
   | next=>obtain ⟨σ7,H7,I7,n7⟩:=q7;exact again I7 n7
   | cont=>obtain ⟨σ7,H7,I7,n7⟩:=q7;exact again I7 n7
   | brk=>obtain ⟨σ7,H7,I7,q7⟩:=q7;exact ⟨σ7,H7,I7.mZ,q7⟩
   | ret v=>obtain ⟨x7, σ7,H7,I7,r7,q7⟩:=q7;exact ⟨x7, σ7,H7,I7.mZ,r7,q7⟩
end
abbrev R2:=V->V->Hp->VK->Prop
noncomputable def di(X:Cx)(f:Value->Value->Sem Value)(r:R2):Prop :=
 ∀(pins:List (Addr × Obj))(s:Shared)(σ :St)(H:Hp)(x y:V)(v u:Value)(Q:VK),Inv X pins σ H s->RelV x v->RelV y u->r x y H Q ->
  wpAny (model X.prog X.w) X.A (f v u) (EP X pins σ Q) X.xe s
noncomputable def KW(X:Cx)(f:Value->Sem Value)(r:V->Hp->VK->Prop):Prop :=
 ∀(pins:List (Addr × Obj))(s:Shared)(σ :St)(H:Hp)(x:V)(v:Value)(Q:VK),Inv X pins σ H s->RelV x v->r x H Q ->
  wpAny (model X.prog X.w) X.A (f v) (EP X pins σ Q) X.xe s
noncomputable def aZ(X:Cx)(f:Value)(r:List V->Hp->VK->Prop):Prop :=
 ∀(pins:List (Addr × Obj))(s:Shared)(σ :St)(H:Hp)(xs:List V)(us:List Value)(Q:VK),Inv X pins σ H s->Vals xs us->r xs H Q ->
  wpAny (model X.prog X.w) X.A (call f us) (EP X pins σ Q) X.xe s
noncomputable def Dm(r:R2)(ta tb:TE):TE:=fun σ H Q=>ta σ H λx H1=>tb σ H1 λy H2=>r x y H2 Q
noncomputable def PD(r:V->Hp->VK->Prop)(ta:TE):TE:=fun σ H Q=>ta σ H λx H1=>r x H1 Q
noncomputable def rI(C:Int->Int->Prop)(g:Int->Int->V):R2:=λx y H Q=> ∃ i j,x= .int i/\y= .int j/\C i j/\Q (g i j) H
noncomputable def BX(g:Int->Int->V):R2:=λx y H Q=> ∃ i j,x= .int i/\y= .int j/\Q (g i j) H
noncomputable def rU(g:Int->V):V->Hp->VK->Prop:=λx H Q=> ∃ i,x= .int i/\Q (g i) H
section
variable{X:Cx}{a b c:Expr}{ta tb tc:TE}{pos:Pos}
theorem Jx(ha:PE X a ta)(hb:PE X b tb){pins:List (Addr × Obj)}{s:Shared}{σ :St}{H:Hp}{R:V->V->Hp->Prop}(I:Inv X pins σ H s)
  (h:ta σ H λx H1=>tb σ H1 λy H2=>R x y H2) {Q:Value->Shared->Prop} {f:Value->Value->Sem Value}
  (hf: ∀ v u s2 x y H2,Inv X pins σ H2 s2->RelV x v->RelV y u->R x y H2->wpAny (model X.prog X.w) X.A (f v u) Q X.xe s2) :
  wpAny (model X.prog X.w) X.A (eval a X.env) (λv s₁ =>wpAny (model X.prog X.w) X.A (eval b X.env) (λu s₂ =>wpAny (model X.prog X.w) X.A (f v u) Q X.xe s₂) X.xe s₁) X.xe s:=by
 refine cQ (ha pins s σ H _ I h) λv s1 ⟨x,H1,I1,r1,q1⟩=>?_;refine cQ (hb pins s1 σ H1 _ I1 q1) λu s2 ⟨y,H2,I2,r2,q2⟩=>?_;exact hf v u s2 x y H2 I2 r1 r2 q2
theorem Lf{op:Operator}{r:R2}(ho:di X (binaryOp op) r)(ha:PE X a ta)(hb:PE X b tb):PE X (.BinOp a op b pos) (Dm r ta tb):=by
 intro pins s σ H Q I h;exact wpAny_BinOp (Jx ha hb I h λv u s2 x y H2 I2 rx ry q=>ho pins s2 σ H2 x y v u Q I2 rx ry q)
theorem Lr{op:UnaryOp}{r:V->Hp->VK->Prop}(ho:KW X (unaryOp op) r)(ha:PE X a ta):PE X (.UnaryOp op a pos) (PD r ta):=by
 intro pins s σ H Q I h;exact UnaryOp_ (cQ (ha pins s σ H _ I h) λv s1 ⟨x,H1,I1,r1,q1⟩=>ho pins s1 σ H1 x v Q I1 r1 q1)
theorem Oi{f:Value->Value->Sem Value}{C:Int->Int->Prop}{g:Int->Int->Int}
  (rule: ∀(i j:Int)(t u:Tok)(s:Shared)(Q:Value->Shared->Prop)(E:Value->Shared->Prop),C i j->Q (.int (g i j) s.toks) { s with toks:=s.toks+1 }->wpAny (model X.prog X.w) X.A (f (.int i t) (.int j u)) Q E s) :
  di X f (rI C λi j=> .int (g i j)):=by
 intro pins s σ H x y v u Q I rx ry h;obtain⟨i,j,rfl,rfl,hc,q⟩:=h;obtain⟨t,rfl⟩:=rx;obtain⟨t',rfl⟩:=ry;exact rule i j t t' s _ _ hc ⟨.int (g i j),H,I.tok _,⟨_,rfl⟩,q⟩
theorem Mz{f:Value->Value->Sem Value}{g:Int->Int->Int}
  (rule: ∀(i j:Int)(t u:Tok)(s:Shared)(Q:Value->Shared->Prop)(E:Value->Shared->Prop),Q (.int (g i j) s.toks) { s with toks:=s.toks+1 }->wpAny (model X.prog X.w) X.A (f (.int i t) (.int j u)) Q E s) :
  di X f (BX λi j=> .int (g i j)):=by
 intro pins s σ H x y v u Q I rx ry h;obtain⟨i,j,rfl,rfl,q⟩:=h;obtain⟨t,rfl⟩:=rx;obtain⟨t',rfl⟩:=ry;exact rule i j t t' s _ _ ⟨.int (g i j),H,I.tok _,⟨_,rfl⟩,q⟩
theorem Cn{f:Value->Value->Sem Value}{g:Int->Int->Bool}
  (rule: ∀(i j:Int)(t u:Tok)(s:Shared)(Q:Value->Shared->Prop)(E:Value->Shared->Prop),Q (.bool (g i j)) s->wpAny (model X.prog X.w) X.A (f (.int i t) (.int j u)) Q E s) :
  di X f (BX λi j=> .bl (g i j)):=by
 intro pins s σ H x y v u Q I rx ry h;obtain⟨i,j,rfl,rfl,q⟩:=h;obtain⟨t,rfl⟩:=rx;obtain⟨t',rfl⟩:=ry;exact rule i j t t' s _ _ ⟨.bl (g i j),H,I,rfl,q⟩
noncomputable def OG(i j:Int):Prop:=0 < j/\j < 1073741824
noncomputable def Pm(i j:Int):Prop:=0<=j/\j<=1000000/\i.natAbs < 2 ^ 64
noncomputable def JZ(i j:Int):Prop:=(-(2 ^ 64) < i/\i < 2 ^ 64)\/(-(2 ^ 64) < j/\j < 2 ^ 64)
theorem JZ.ok{i j:Int}(h:JZ i j):IntMulOk i j:=by
 rcases h with⟨h1,h2⟩ | ⟨h1,h2⟩
 . exact .of_left (intBits_le_64 h1 h2)
 . exact .of_right (intBits_le_64 h1 h2)
theorem GG:di X (binaryOp .Add) (BX λi j=> .int (i+j)):=Mz λ_ _ _ _ _ _ _ q=>add_int q
theorem KQ:di X (binaryOp .Sub) (BX λi j=> .int (i - j)):=Mz λ_ _ _ _ _ _ _ q=>sub_int q
theorem Gb:di X (binaryOp .Mult) (rI JZ λi j=> .int (i*j)):=Oi λ_ _ _ _ _ _ _ hc q=>mul_int q hc.ok
theorem El:di X (binaryOp .FloorDiv) (rI OG λi j=> .int (i / j)):=Oi λi j _ _ _ _ _ hc q=>by
 have h1:(0:Int) < j:=hc.1;have h2:j < 1073741824:=hc.2;exact floordiv_int (by omega) (by rw[Int.fdiv_eq_ediv_of_nonneg i (by omega)];exact q) (.inl (PyProof.noPylong_small (by omega)))
theorem Ib:di X (binaryOp .Mod) (rI (λ_ j=>0 < j) λi j=> .int (i % j)):=Oi λi j _ _ _ _ _ hc q=>by
 have h1:(0:Int) < j:=hc;exact mod_int' (by omega) (by rw[Int.fmod_eq_emod_of_nonneg i (by omega)];exact q)
theorem GP:di X (binaryOp .Pow) (rI Pm λi j=> .int (i ^ j.toNat)):=Oi λ_ _ _ _ _ _ _ hc q=>pow_int_small hc.1 hc.2.1 hc.2.2 q
theorem Qm{f:Value->Sem Value}{g:Int->Int}
  (rule: ∀(i:Int)(t:Tok)(s:Shared)(Q:Value->Shared->Prop)(E:Value->Shared->Prop),Q (.int (g i) s.toks) { s with toks:=s.toks+1 }->wpAny (model X.prog X.w) X.A (f (.int i t)) Q E s) :
  KW X f (rU λi=> .int (g i)):=by
 intro pins s σ H x v Q I rx h;obtain⟨i,rfl,q⟩:=h;obtain⟨t,rfl⟩:=rx;exact rule i t s _ _ ⟨.int (g i),H,I.tok _,⟨_,rfl⟩,q⟩
theorem Kf:KW X (unaryOp .USub) (rU λi=> .int (-i)):=Qm λ_ _ _ _ _ q=>neg_int q
end
noncomputable def Ab:V->V->Bool
 | .non,.non=>true | .non,.int _=>true | .int _,.non=>true | .non,.bl _=>true | .bl _,.non=>true | .non,.str _=>true | .str _,.non=>true
 | .int _,.int _=>true | .bl _,.bl _=>true | .str _,.str _=>true | .byt _,.byt _=>true
 | .int _,.str _=>true | .str _,.int _=>true | .bl _,.str _=>true | .str _,.bl _=>true
 | _,_=>false
noncomputable def Qt:R2:=λx y H Q=>Ab x y=true/\Q (.bl (decide (x=y))) H
noncomputable def Qr:R2:=λx y H Q=>Ab x y=true/\Q (.bl (!decide (x=y))) H
theorem vF{i j:Int}:decide (V.int i=V.int j)=(i == j):=by
 rw[Bool.eq_iff_iff];simp
theorem Bf{i j:Bool}:decide (V.bl i=V.bl j)=(i == j):=by
 rw[Bool.eq_iff_iff];simp
theorem wB{i j:Str}:decide (V.str i=V.str j)=(i == j):=by
 rw[Bool.eq_iff_iff];simp
theorem wO{i j:Array UInt8}:decide (V.byt i=V.byt j)=(i.toList == j.toList):=by
 rw[Bool.eq_iff_iff];cases i;cases j;simp
section
variable{X:Cx}{a b c:Expr}{ta tb tc:TE}{pos:Pos}
theorem ba{pins:List (Addr × Obj)}{σ :St}{H:Hp}{s:Shared}{Q:VK}{k k':Bool}(I:Inv X pins σ H s)(q:Q (.bl k) H)(e:k=k'):EP X pins σ Q (.bool k') s:=by
 subst e;exact⟨.bl k,H,I,rfl,q⟩
theorem LP:di X (compareOp .Eq) Qt:=by
 intro pins s σ H x y v u Q I rx ry h;obtain⟨hs,q⟩:=h;cases x with
 | non =>
  cases rx
  cases y with
  | non=>cases ry;exact PySem.EqNone.eq_none_none (ba I q (by simp))
  | bl j=>cases ry;exact PySem.EqNone.eq_none_bool (ba I q (by simp))
  | int j=>obtain⟨t',rfl⟩:=ry;exact PySem.EqNone.eq_none_int (ba I q (by simp))
  | str j=>obtain⟨t',rfl⟩:=ry;exact PySem.EqNone.eq_none_str (ba I q (by simp))
  | _=>exact absurd (show false=true from hs) Bool.false_ne_true
 | bl i =>
  cases rx
  cases y with
  | non=>cases ry;exact PySem.EqNone.eq_bool_none (ba I q (by simp))
  | bl j=>cases ry;exact eq_bool (ba I q Bf)
  | str j=>obtain⟨t',rfl⟩:=ry;exact PySem.EqMixed.eq_bool_str (ba I q (by simp))
  | _=>exact absurd (show false=true from hs) Bool.false_ne_true
 | int i =>
  obtain⟨t,rfl⟩:=rx
  cases y with
  | non=>cases ry;exact PySem.EqNone.eq_int_none (ba I q (by simp))
  | int j=>obtain⟨t',rfl⟩:=ry;exact eq_int (ba I q vF)
  | str j=>obtain⟨t',rfl⟩:=ry;exact PySem.EqMixed.eq_int_str (ba I q (by simp))
  | _=>exact absurd (show false=true from hs) Bool.false_ne_true
 | str i =>
  obtain⟨t,rfl⟩:=rx
  cases y with
  | non=>cases ry;exact PySem.EqNone.eq_str_none (ba I q (by simp))
  | bl j=>cases ry;exact PySem.EqMixed.eq_str_bool (ba I q (by simp))
  | int j=>obtain⟨t',rfl⟩:=ry;exact PySem.EqMixed.eq_str_int (ba I q (by simp))
  | str j=>obtain⟨t',rfl⟩:=ry;exact eq_str (ba I q wB)
  | _=>exact absurd (show false=true from hs) Bool.false_ne_true
 | byt i =>
  obtain⟨t,rfl⟩:=rx
  cases y with
  | byt j=>obtain⟨t',rfl⟩:=ry;exact PySem.W.eq_bytes (ba I q wO)
  | _=>exact absurd (show false=true from hs) Bool.false_ne_true
 | _=>cases y<;>exact absurd (show false=true from hs) Bool.false_ne_true
theorem Le:di X (compareOp .NotEq) Qr:=by
 intro pins s σ H x y v u Q I rx ry h;obtain⟨hs,q⟩:=h;cases x with
 | non =>
  cases rx
  cases y with
  | non=>cases ry;exact PySem.EqNone.ne_none_none (ba I q (by simp))
  | bl j=>cases ry;exact PySem.EqNone.ne_none_bool (ba I q (by simp))
  | int j=>obtain⟨t',rfl⟩:=ry;exact PySem.EqNone.ne_none_int (ba I q (by simp))
  | str j=>obtain⟨t',rfl⟩:=ry;exact PySem.EqNone.ne_none_str (ba I q (by simp))
  | _=>exact absurd (show false=true from hs) Bool.false_ne_true
 | bl i =>
  cases rx
  cases y with
  | non=>cases ry;exact PySem.EqNone.ne_bool_none (ba I q (by simp))
  | bl j=>cases ry;exact ne_bool (ba I q (congrArg not Bf))
  | str j=>obtain⟨t',rfl⟩:=ry;exact PySem.EqMixed.ne_bool_str (ba I q (by simp))
  | _=>exact absurd (show false=true from hs) Bool.false_ne_true
 | int i =>
  obtain⟨t,rfl⟩:=rx
  cases y with
  | non=>cases ry;exact PySem.EqNone.ne_int_none (ba I q (by simp))
  | int j=>obtain⟨t',rfl⟩:=ry;exact ne_int (ba I q (congrArg not vF))
  | str j=>obtain⟨t',rfl⟩:=ry;exact PySem.EqMixed.ne_int_str (ba I q (by simp))
  | _=>exact absurd (show false=true from hs) Bool.false_ne_true
 | str i =>
  obtain⟨t,rfl⟩:=rx
  cases y with
  | non=>cases ry;exact PySem.EqNone.ne_str_none (ba I q (by simp))
  | bl j=>cases ry;exact PySem.EqMixed.ne_str_bool (ba I q (by simp))
  | int j=>obtain⟨t',rfl⟩:=ry;exact PySem.EqMixed.ne_str_int (ba I q (by simp))
  | str j=>obtain⟨t',rfl⟩:=ry;exact ne_str (ba I q (congrArg not wB))
  | _=>exact absurd (show false=true from hs) Bool.false_ne_true
 | byt i =>
  obtain⟨t,rfl⟩:=rx
  cases y with
  | byt j=>obtain⟨t',rfl⟩:=ry;exact PySem.W.ne_bytes (ba I q (congrArg not wO))
  | _=>exact absurd (show false=true from hs) Bool.false_ne_true
 | _=>cases y<;>exact absurd (show false=true from hs) Bool.false_ne_true
theorem NJ:di X (compareOp .Lt) (BX λi j=> .bl (decide (i < j))):=Cn λ_ _ _ _ _ _ _ q=>lt_int q
theorem Ly:di X (compareOp .LtE) (BX λi j=> .bl (decide (i<=j))):=Cn λ_ _ _ _ _ _ _ q=>le_int q
theorem M7:di X (compareOp .Gt) (BX λi j=> .bl (decide (j < i))):=Cn λ_ _ _ _ _ _ _ q=>gt_int q
theorem K7:di X (compareOp .GtE) (BX λi j=> .bl (decide (j<=i))):=Cn λ_ _ _ _ _ _ _ q=>ge_int q
theorem xh:di X (compareOp .In) (λx y H Q=> ∃ i j,x= .str i/\y= .str j/\Q (.bl (!(Builtin.Str.occurrences j i 0 j.length 1).isEmpty)) H):=by
 intro pins s σ H x y v u Q I rx ry h;obtain⟨i,j,rfl,rfl,q⟩:=h;obtain⟨t,rfl⟩:=rx;obtain⟨t',rfl⟩:=ry;exact in_str (ba I q rfl)
theorem di.or{f:Value->Value->Sem Value}{r r':R2}(h:di X f r)(h':di X f r'):di X f (λx y H Q=>r x y H Q\/r' x y H Q):=by
 intro pins s σ H x y v u Q I rx ry q;rcases q with q | q
 . exact h pins s σ H x y v u Q I rx ry q
 . exact h' pins s σ H x y v u Q I rx ry q
theorem AN(b:Expr){op:CmpOp}(h:op≠ .In:=by decide)(h2:op≠ .NotIn:=by decide):behindInMarks op b=false:=by
 have e1:(op == CmpOp.In)=false:=by cases op<;>first | rfl | exact absurd rfl h
 have e2:(op == CmpOp.NotIn)=false:=by cases op<;>first | rfl | exact absurd rfl h2
 cases b<;>simp[behindInMarks,e1,e2]
theorem CG{op:CmpOp}{r:R2}(ho:di X (compareOp op) r)(ha:PE X a ta)(hb:PE X b tb)(hm:behindInMarks op b=false):PE X (.Compare a [op] [b] pos) (Dm r ta tb):=by
 intro pins s σ H Q I h;exact wpAny_Compare1 (Jx ha hb I h λv u s2 x y H2 I2 rx ry q=>ho pins s2 σ H2 x y v u Q I2 rx ry q) hm
noncomputable def zf(t:TE):TT:=fun σ H Q=>t σ H λx H'=> ∃ k,x= .bl k/\Q k H'
theorem Cq{op:CmpOp}{r:R2}(ho:di X (compareOp op) r)(ha:PE X a ta)(hb:PE X b tb)(hm:behindInMarks op b=false):PT X (.Compare a [op] [b] pos) (zf (Dm r ta tb)):=by
 intro pins s σ H Q I h;refine wpAny_isTrue_Compare1 (cQ (ha pins s σ H _ I h) λv s1 ⟨x,H1,I1,r1,q1⟩=>cQ (hb pins s1 σ H1 _ I1 q1) λu s2 ⟨y,H2,I2,r2,q2⟩ =>
  cQ (ho pins s2 σ H2 x y v u _ I2 r1 r2 q2) λc s3 ⟨z,H3,I3,r3,k,e,q3⟩=>?_) hm
 subst e;cases r3;exact wpAny_truthy_bool ⟨H3,I3,q3⟩
noncomputable def uB(r r':R2)(ta tb tc:TE):TE:=fun σ H Q=>ta σ H λx H1=>tb σ H1 λy H2=>r x y H2 λz H3=> ∃ k,z= .bl k /\
 (if k=true then tc σ H3 λw' H4=>r' y w' H4 Q else Q (.bl false) H3)
theorem zC{op op':CmpOp}{r r':R2}(ho:di X (compareOp op) r)(ho':di X (compareOp op') r')(ha:PE X a ta)(hb:PE X b tb)(hc:PE X c tc)
  (hm:lastMarks [op,op'] [b,c]=false:=by with_unfolding_all rfl):PE X (.Compare a [op,op'] [b,c] pos) (uB r r' ta tb tc):=by
 intro pins s σ H Q I h;refine Compare_chain (cQ (ha pins s σ H _ I h) λv s1 ⟨x,H1,I1,r1,q1⟩=>chain_link (cQ (hb pins s1 σ H1 _ I1 q1) λu s2 ⟨y,H2,I2,r2,q2⟩ =>
  cQ (ho pins s2 σ H2 x y v u _ I2 r1 r2 q2) λd s3 ⟨z,H3,I3,r3,k,e,q3⟩=>?_)) hm
 subst e;cases r3;refine wpAny_truthy_bool ?_;cases k with
 | false=>exact ite_ff ⟨.bl false,H3,I3,rfl,q3⟩
 | true=>exact ite_tt (chain_last (cQ (hc pins s3 σ H3 _ I3 q3) λw' s4 ⟨z',H4,I4,r4,q4⟩=>ho' pins s4 σ H4 y z' u w' Q I4 r2 r4 q4))
theorem kX:(sizeLine:Nat) < 2 ^ 63:=by rw[sizeLine_eq];decide
theorem vals1{x:V}{us:List Value}(r:Vals [x] us): ∃ u,us=[u]/\RelV x u:=by
 cases r with
 | cons r1 r2=>cases r2;exact⟨_,rfl,r1⟩
theorem vals2{x y:V}{us:List Value}(r:Vals [x,y] us): ∃ u w',us=[u,w']/\RelV x u/\RelV y w':=by
 cases r with
 | cons r1 r2 =>
  cases r2 with
  | cons r3 r4=>cases r4;exact⟨_,_,rfl,r1,r3⟩
theorem yk:aZ X (.type "int") (λxs H Q=>(∃ i,xs=[.int i]/\Q (.int i) H)\/ ∃ k,xs=[.bl k]/\Q (.int (if k then 1 else 0)) H):=by
 intro pins s σ H xs us Q I r h;rcases h with⟨i,rfl,q⟩ | ⟨k,rfl,q⟩
 . obtain⟨u,rfl,t,rfl⟩:=vals1 r;exact call_int_int ⟨.int i,H,I,⟨_,rfl⟩,q⟩
 . obtain⟨u,rfl,r1⟩:=vals1 r;cases r1;exact call_int_bool ⟨.int (if k then 1 else 0),H,I.tok _,⟨_,rfl⟩,q⟩
end
structure Ke(h:Heap)(x dx C:Addr)(mA:Str->Option Value):Prop where
 obj:h.get? x=some (PySem.W.instObj C dx)
 ns:h.Ns1 dx mA
 ne:dx≠x
theorem xu{h:Heap}{dx:Addr}{mA:Str->Option Value}(n:h.Ns1 dx mA): ∃ od,h.get? dx=some od/\ ∀ name,PySem.W.lookIn name od=some (mA name):=by
 obtain⟨o,es,ep,ho,hd,hk,_,hm⟩:=n;refine⟨o,ho,λname=>?_⟩;have e:=hm name;unfold nsFind findBy at e;rw[<- Array.find?_toList] at e;unfold PySem.W.lookIn;rw[hd];dsimp only;split
 . rename_i y q;rw[q] at e;exact congrArg some e
 . rename_i q;rw[q] at e;have a:es.toList.any (·.refKey)=false:=by
    rw[List.any_eq_false];intro y hy;obtain⟨z,t,hkey⟩:=hk y (Array.mem_toList_iff.mp hy);simp[DictEntry.refKey,hkey]
   have a': ¬ es.toList.any (·.refKey)=true:=by rw[a];exact Bool.false_ne_true
   rw[if_neg a'];exact congrArg some e
theorem Ke.look{h:Heap}{x dx C:Addr}{mA:Str->Option Value}(I:Ke h x dx C mA): ∃ od,PySem.W.InstAt h x (PySem.W.instObj C dx) C (some od)/\ ∀ name,PySem.W.lookIn name od=some (mA name) :=
 let ⟨od,ho,hl⟩:=xu I.ns
 ⟨od,⟨I.obj,rfl,rfl,ho⟩,hl⟩
theorem jX.some_of{v:V}{o:Option Value}(r:jX (some v) o): ∃ u,o=some u/\RelV v u:=by
 cases o with
 | none=>exact(show False from r).elim
 | some u=>exact⟨u,rfl,r⟩
section
variable{P:Program}{w:World}{H H':Hp}{h h':Heap}{a C dx:Addr}{fs fs':List (Str × V)}
theorem CT(bx:ji P w H h)(e:H a=some (.ins C dx fs)): ∃ mA,Ke h a dx C mA/\(∀ f,jX (fs.lookup f) (mA f))/\PySem.Within mA (fs.map (·.1))/\fs.length<=1000/\H dx=some (.own a):=by
 obtain⟨d,z,ne,ob,mA,n,r,q⟩:=(show bg P w H h a (.ins C dx fs) from bx a _ e)
 exact⟨mA,⟨ob,n,ne⟩,r,q,z,d⟩
end
structure LX(K:PySem.W.Frag)(C:Addr):Prop where
 pg:PySem.W.plainGet K C Str.empty=true
 hd:PySem.W.hasDictIn K C=true
 po:PySem.W.plainOver K C=true
 sa:PySem.W.findIn K (.ref C) "__setattr__" =some (some (.builtin "object.__setattr__"))
theorem LX.get{K:PySem.W.Frag}{C:Addr}(c:LX K C)(f:Str):PySem.W.plainGet K C f=true:=c.pg
structure Qx(K:PySem.W.Frag)(C:Addr)(f:Str)(v:V)(u:Value):Prop where
 at_:PySem.W.findIn K (.ref C) f=some (some u)
 rel:RelV v u
 get:PySem.W.specialIn K u "__get__" =some none
 cp:PySem.W.copiedNames.contains f=false
structure Meth(K:PySem.W.Frag)(C:Addr)(m:Str)(f:Addr):Prop where
 at_:PySem.W.findIn K (.ref C) m=some (some (.ref f))
 fn:PySem.W.isFn K (.ref f)=true
 kp:PySem.W.keepIn K (.ref f)=true
section
variable{X:Cx}{pins:List (Addr × Obj)}{σ :St}{H:Hp}{s:Shared}{a C dx:Addr}{fs:List (Str × V)}{f:Str}{v:V}{A:Around}{E:Value->Shared->Prop}
theorem Inv.made(I:Inv X pins σ H s):Inv X pins σ (upd (upd H s.heap.objs.size (.own (s.heap.objs.size+1))) (s.heap.objs.size+1) (.ins C s.heap.objs.size []))
  { s with heap:=(s.heap.push PySem.W.emptyDict).push (PySem.W.instObj C s.heap.objs.size) }:=by
 have e1:(s.heap.push PySem.W.emptyDict).get? s.heap.objs.size=some PySem.W.emptyDict:=Heap.get?_push_size s.heap rfl;have e2:((s.heap.push PySem.W.emptyDict).push (PySem.W.instObj C s.heap.objs.size)).get? (s.heap.objs.size+1)=some (PySem.W.instObj C s.heap.objs.size):=by
  have:=Heap.get?_push_size (s.heap.push PySem.W.emptyDict) (o:=PySem.W.instObj C s.heap.objs.size) rfl
  rwa [Heap.size_push] at this
 have e3:(s.heap.push PySem.W.emptyDict).Ns s.heap.objs.size (λ_=>none):=⟨PySem.W.emptyDict, #[],_,e1,rfl,(λe he=>absurd he (by simp)),λ_=>rfl⟩
 have I1:=I.laid (a:=s.heap.objs.size) (o:= .own (s.heap.objs.size+1)) (h':=s.heap.push PySem.W.emptyDict) (t':=s.toks) (λb u q=>Heap.get?_push_of_some _ q) (Nat.le_refl _) ⟨_,e1⟩;refine I1.laid (a:=s.heap.objs.size+1) (o:= .ins C s.heap.objs.size []) (t':=s.toks) (λb u q=>Heap.get?_push_of_some _ q) (Nat.le_of_eq (Heap.size_push _ _)) ?_;have ne:s.heap.objs.size≠s.heap.objs.size+1:=Nat.ne_of_lt (Nat.lt_succ_self _);refine⟨by rw[aB ne,bc],Nat.zero_le _,ne,e2,λ_=>none,(Heap.Ns1.of_empty e3).at λo q=>Heap.get?_push_of_some _ q,λ_=>True.intro,λy hy=>absurd rfl hy⟩
end
section
variable{X:Cx}{pins:List (Addr × Obj)}{σ :St}{H:Hp}{s:Shared}{A:Around}{E:Value->Shared->Prop}{Q:Value->Shared->Prop}{c:Value}{b:Bool}
inductive i6(K:PySem.W.Frag)(H:Hp):V->Value->Prop where
 | non:i6 K H .non (.type "NoneType")
 | bl (x:Bool):i6 K H (.bl x) (.type "bool")
 | int (i:Int):i6 K H (.int i) (.type "int")
 | str (x:Str):i6 K H (.str x) (.type "str")
 | flt (x:UInt64):i6 K H (.flt x) (.type "float")
 | lst {a:Addr} {xs:List V} (e:H a=some (.lst xs)):i6 K H (.ref a) (.type "list")
 | jB {a:Addr} {o:Obj} {xs:List V} (e:H a=some (.jB o (.lst xs))):i6 K H (.ref a) (.type "list")
 | tup {a:Addr} {xs:List V} (e:H a=some (.tup xs)):i6 K H (.ref a) (.type "tuple")
 | dK {a:Addr} {kvs:List (Key × V)} (e:H a=some (.dK kvs)):i6 K H (.ref a) (.type "dict")
 | dT {a:Addr} {kvs:List (List Key × V)} (e:H a=some (.dT kvs)):i6 K H (.ref a) (.type "dict")
 | ins {a C dx:Addr} {fs:List (Str × V)} (e:H a=some (.ins C dx fs)) (cl:LX K C) (ha:PySem.W.findIn K (.ref C) "__class__" =some (some (.builtin "object.__class__")))
   (hn:PySem.W.specialIn K (.builtin "object.__class__") "__get__" =some (some (.builtin "getset_descriptor.__get__"))) (htk:PySem.W.takesIn K (.builtin "object.__class__")=some true)
   (hm:PySem.W.mroIn K C (.type "object")=some true):i6 K H (.ref a) (.ref C)
theorem xt{x:V}{u t:Value}(I:Inv X pins σ H s)(rx:RelV x u)(ty:i6 X.K H x t)(e:PySem.W.kitOne X.K t c=some b)(h: ∀ tk,Q (.bool b) { s with toks:=tk }) :
  wpAny (model X.prog X.w) A (call (.builtin "isinstance") [u,c]) Q E s:=by
 cases ty with
 | non=>cases(show u=Value.none from rx);exact PySem.W.kia_one PySem.W.kitx_none I.ku True.intro e (λz=>nomatch z) h
 | bl y=>cases(show u=Value.bool y from rx);exact PySem.W.kia_one PySem.W.kitx_bool I.ku True.intro e (λz=>nomatch z) h
 | int i=>obtain⟨t,q⟩:=(show ∃ t,u=Value.int i t from rx);cases q;exact PySem.W.kia_one PySem.W.kitx_int I.ku True.intro e (λz=>nomatch z) h
 | str y=>obtain⟨t,q⟩:=(show ∃ t,u=Value.str y t from rx);cases q;exact PySem.W.kia_one PySem.W.kitx_str I.ku True.intro e (λz=>nomatch z) h
 | flt y=>obtain⟨t,q⟩:=(show ∃ t,u=Value.float y t from rx);cases q;exact PySem.W.kia_one PySem.W.kitx_float I.ku True.intro e (λz=>nomatch z) h
 | @lst a xs ea =>
  cases(show u=Value.ref a from rx)
  obtain⟨_,_,n,_,h1⟩:=(show bg X.prog X.w H s.heap a (.lst xs) from I.bx a _ ea)
  exact PySem.W.kia_one PySem.W.kitx_list I.ku ⟨_,h1,rfl⟩ e (λz=>nomatch z) h
 | @jB a ob xs ea =>
  cases(show u=Value.ref a from rx)
  obtain⟨_,_,_,n,_,h1⟩:=(show bg X.prog X.w H s.heap a (.jB ob (.lst xs)) from I.bx a _ ea)
  exact PySem.W.kia_one PySem.W.kitx_list I.ku ⟨_,h1,rfl⟩ e (λz=>nomatch z) h
 | @tup a xs ea =>
  cases(show u=Value.ref a from rx)
  obtain⟨_,_,_,p⟩:=(show bg X.prog X.w H s.heap a (.tup xs) from I.bx a _ ea)
  obtain⟨o,h1,h2,_⟩:=p
  exact PySem.W.kia_one PySem.W.kitx_tuple I.ku ⟨o,h1,h2⟩ e (λz=>nomatch z) h
 | @dK a kvs ea =>
  cases(show u=Value.ref a from rx)
  obtain⟨_,_,vs,_,p⟩:=(show bg X.prog X.w H s.heap a (.dK kvs) from I.bx a _ ea)
  obtain⟨o,es,ep,h1,h2,_⟩:=p
  exact PySem.W.kia_one PySem.W.kitx_dict I.ku ⟨o,h1,h2.1⟩ e (λz=>nomatch z) h
 | @dT a kvs ea =>
  cases(show u=Value.ref a from rx)
  obtain⟨_,_,xs,_,o,es,ep,h1,h2,_⟩:=(show bg X.prog X.w H s.heap a (.dT kvs) from I.bx a _ ea)
  exact PySem.W.kia_one PySem.W.kitx_dict I.ku ⟨o,h1,h2.1⟩ e (λz=>nomatch z) h
 | @ins a C dx fs ea cl ha hn htk hm =>
  cases(show u=Value.ref a from rx)
  obtain⟨mA,O,_⟩:=CT I.bx ea
  obtain⟨od,J,_⟩:=O.look
  exact PySem.W.kia_one (PySem.W.kitx_own (cl.get _) cl.hd ha hn htk hm) I.ku J e (λz=>nomatch z) h
end
structure dG(k:Nat)(A:Around):Prop where
 hd:A.handled=none
 dp:A.depth+3*k+5 < recursionLimit
 un:A.units+16*k+200 < cLine
 gd:A.guards=some []
theorem dG.mono{j k:Nat}{A:Around}(r:dG k A)(h:j<=k):dG j A:=⟨r.hd,by have:=r.dp;omega,by have:=r.un;omega,r.gd⟩
theorem dG.deeper{k:Nat}{A:Around}(r:dG (k+1) A)(env:Env):dG k (A.deeper env) :=
 ⟨r.hd,by have:=r.dp;show A.depth+1+3*k+5 < _;omega,by have:=r.un;show A.units+3+16*k+200 < _;omega,r.gd⟩
theorem dG.in1{k:Nat}{A:Around}(r:dG (k+1) A):dG k A.in1 :=
 ⟨r.hd,by have:=r.dp;show A.depth+3*k+5 < _;omega,by have:=r.un;show A.units+1+16*k+200 < _;omega,r.gd⟩
theorem dG.depth{k:Nat}{A:Around}(r:dG k A):A.depth < recursionLimit:=by have:=r.dp;omega
theorem dG.units{k:Nat}{A:Around}(r:dG k A):A.units+64 < cLine:=by have:=r.un;omega
theorem dG.Ja{k:Nat}{A:Around}(r:dG k A):A.units < cLine:=by have:=r.un;omega
noncomputable def Nn:TA:=λ_ H Q=>Q [] H
noncomputable def yJ(ta:TE)(tr:TA):TA:=fun σ H Q=>ta σ H λx H1=>tr σ H1 λxs H2=>Q (x::xs) H2
section
variable{X:Cx}{e:Expr}{es:List Expr}{te:TE}{t:TA}{pos:Pos}
theorem HM:PA X [] Nn:=λ_ _ _ _ H Q I h=>Calls.spliced_nil ⟨[],H,I,.nil,h⟩
theorem B1(ha:PE X e te)(hr:PA X es t)(hs:starEach (e::es) X.env=(false,eval e X.env)::starEach es X.env:=by rfl):PA X (e::es) (yJ te t):=by
 intro pos pins s σ H Q I h;rw[hs];show wpAny _ _ (spliced ((false,eval e X.env)::backTo pos (starEach es X.env))) _ _ s;refine Calls.spliced_cons (cQ (ha pins s σ H _ I h) λu s1 ⟨x,H1,I1,r1,q1⟩=>?_);exact cQ (hr pos pins s1 σ H1 _ I1 q1) λus s2 ⟨xs,H2,I2,r2,q2⟩=>⟨x::xs,H2,I2,.cons r1 r2,q2⟩
noncomputable def LZ(t:TA):TE:=fun σ H Q=>t σ H λxs H1=>xs.length<=sizeLine/\ ∀ p,H1 p=none->Q (.ref p) (upd H1 p (.tup xs))
noncomputable def LW(t:TA):TE:=fun σ H Q=>t σ H λxs H1=>xs.length<=sizeLine/\ ∀ p,H1 p=none->Q (.ref p) (upd H1 p (.lst xs))
theorem GO{x1}(h:PA X es t):PE X (.Tuple es x1 pos) (LZ t):=by
 intro pins s σ H Q I hq;refine wpAny_Tuple_spliced (cQ (h pos pins s σ H _ I hq) λus s1 ⟨xs,H1,I1,r,z,q⟩=>⟨by rw[<- r.length];exact z,?_⟩);have hf:H1 s1.heap.objs.size=none:=I1.bx.fresh (Nat.le_refl _);refine⟨.ref s1.heap.objs.size,upd H1 s1.heap.objs.size (.tup xs),I1.laid (t':=s1.toks) (λb u e=>Heap.get?_push_of_some _ e) (Nat.le_refl _) ?_,rfl,q _ hf⟩;exact⟨z,us,r,⟨_,Heap.get?_push_size _ rfl,rfl,_,rfl,rfl⟩⟩
theorem Ie(h:PA X es t):PE X (.List es pos) (LW t):=by
 intro pins s σ H Q I hq;refine wpAny_List_spliced (cQ (h pos pins s σ H _ I hq) λus s1 ⟨xs,H1,I1,r,z,q⟩=>⟨by rw[<- r.length];exact z,?_⟩);have hf:H1 s1.heap.objs.size=none:=I1.bx.fresh (Nat.le_refl _);refine⟨.ref s1.heap.objs.size,upd H1 s1.heap.objs.size (.lst xs),I1.laid (t':=s1.toks) (λb u e=>Heap.get?_push_of_some _ e) (Nat.le_refl _) ?_,rfl,q _ hf⟩;exact⟨z,us,0,r,Heap.get?_push_size _ rfl⟩
end
abbrev Sp:=List V->Hp->VK->XK->Prop
abbrev xN:=List Env->Hp->Shared->XK->Value->Shared->Prop
structure vA(P:Program)(w:World)(K:PySem.W.Frag)(mg:Str->Option Value)(base:Heap)(A:Around)(outer:List Env)(s:Shared)(H:Hp):Prop where
 frames:A.frames=some outer
 mod:Mod K mg base
 bs: ∀ b o,base.get? b=some o->s.heap.get? b=some o/\H b=none
 BZ:base.objs.size<=s.heap.objs.size
 ky:s.heap.FunFrames base outer
 FQ: ∀ b∈yw outer,H b=none
 bx:ji P w H s.heap
 bare:AllBare s.gens
noncomputable def CE(outer:List Env)(P:Program)(w:World)(H:Hp)(s:Shared)(Q:VK)(u:Value)(s':Shared):Prop :=
 ∃ v H',s'.os=s.os/\AllBare s'.gens/\Un (yw outer) [] H H' s.heap s'.heap/\ji P w H' s'.heap/\RelV v u/\Q v H'
noncomputable def CR(CX:xN)(outer:List Env)(P:Program)(w:World)(H:Hp)(s:Shared)(Q:VK)(E:XK)(r:Result)(s':Shared):Prop :=
 match r with
 | .ok (.ret u)=>CE outer P w H s Q u s'
 | .ok _=>False
 | .error e=>CX outer H s E e s'
structure hZ(P:Program)(w:World)(K:PySem.W.Frag)(mg:Str->Option Value)(base:Heap)(CX:xN)(k:Nat)(f:Addr)(fd:FuncData)(ps:List Str)(sp:Sp):Prop where
 len: ∀ vs H Q E,sp vs H Q E->vs.length=ps.length
 run: ∀(A:Around)(outer:List Env)(s:Shared)(H:Hp)(args:Args)(us:List Value)(vs:List V)(Q:VK)(E:XK),dG k A->vA P w K mg base A outer s H->BindsTo s fd args (ps.zip us)->Vals vs us->sp vs H Q E ->
  codeAny (model P w) A (.call (.ref f) args) (CR CX outer P w H s Q E) s
theorem hZ.mono{P:Program}{w:World}{K:PySem.W.Frag}{mg:Str->Option Value}{base:Heap}{CX:xN}{j k:Nat}{f:Addr}{fd:FuncData}{ps:List Str}{sp:Sp}(F:hZ P w K mg base CX j f fd ps sp)(h:j<=k) :
  hZ P w K mg base CX k f fd ps sp:=⟨F.len,λA outer s H args us vs Q E hr=>F.run A outer s H args us vs Q E (hr.mono h)⟩
theorem hZ.imp{P:Program}{w:World}{K:PySem.W.Frag}{mg:Str->Option Value}{base:Heap}{CX:xN}{k:Nat}{f:Addr}{fd:FuncData}{ps:List Str}{sp sp':Sp}(F:hZ P w K mg base CX k f fd ps sp)
  (h: ∀ vs H Q E,sp' vs H Q E->sp vs H Q E):hZ P w K mg base CX k f fd ps sp' :=
 ⟨λvs H Q E q=>F.len vs H Q E (h _ _ _ _ q),λA outer s H args us vs Q E hr he hb hv hs=>F.run A outer s H args us vs Q E hr he hb hv (h _ _ _ _ hs)⟩
theorem vA.in1{P:Program}{w:World}{K:PySem.W.Frag}{mg:Str->Option Value}{base:Heap}{A:Around}{outer:List Env}{s:Shared}{H:Hp}(e:vA P w K mg base A outer s H) :
  vA P w K mg base A.in1 outer s H:=⟨e.frames,e.mod,e.bs,e.BZ,e.ky,e.FQ,e.bx,e.bare⟩
section
variable{X:Cx}{pins:List (Addr × Obj)}{σ :St}{H:Hp}{s s':Shared}
theorem Inv.Po(I:Inv X pins σ H s):vA X.prog X.w X.K X.mg X.base X.A X.stack s H :=
 ⟨I.ok.frames,I.ok.mod,I.bs,Nat.le_trans I.ok.BZ I.sz,I.stack,I.vN,I.bx,I.bare⟩
theorem Inv.after{Q:VK}{u:Value}(I:Inv X pins σ H s)(h:CE X.stack X.prog X.w H s Q u s'):EP X pins σ Q u s':=by
 obtain⟨v,H',os,bare,un,bx,r,q⟩:=h;obtain⟨hh,g,d,t,os'⟩:=s';obtain rfl:os'=s.os:=os;exact⟨v,H',I.call (h':=hh) (g':=g) (d':=d) (t':=t) (ch:=[]) un bx bare (λb z=>absurd z (by simp)),r,q⟩
end
noncomputable def vJ(sp:Sp)(BY:List V)(E:XK)(t:TA):TE:=fun σ H Q=>t σ H λvs H1=>sp (vs++BY) H1 Q E
noncomputable def Binds(K:PySem.W.Frag)(fd:FuncData)(ps:List Str)(ds:List Value):Prop :=
 ∀(s:Shared)(us:List Value),K.In s.heap->(us++ds).length=ps.length->BindsTo s fd ⟨us,[]⟩ (ps.zip (us++ds))
theorem Binds.all{K:PySem.W.Frag}{fd:FuncData}{ps:List Str}(h: ∀ us:List Value,us.length=ps.length->bindArgs fd ⟨us,[]⟩=pure (ps.zip us)):Binds K fd ps []:=λs us _ hl=>by
 rw[List.append_nil] at hl ⊢;exact .of_eq (h us hl)
noncomputable def Passes(CX:xN)(X:Cx)(E:XK):Prop:= ∀(pins:List (Addr × Obj))(σ :St)(H:Hp)(s:Shared)(e:Value)(s':Shared),Inv X pins σ H s->CX X.stack H s E e s'->X.xe e s'
section
variable{X:Cx}{CX:xN}{k:Nat}{f C:Addr}{fd:FuncData}{ps:List Str}{sp:Sp}{BY:List V}{ds:List Value}{E:XK}{x m:Str}{p pos apos:Pos}{e o:Expr}{es:List Expr}{ta:TE}{t:TA}
theorem HI{pins:List (Addr × Obj)}{σ :St}{H:Hp}{s:Shared}{Q:VK}{us:List Value}{vs:List V}(F:hZ X.prog X.w X.K X.mg X.base CX k f fd ps sp)(hr:dG k X.A)(hb:Binds X.K fd ps ds)(hd:Vals BY ds)(hx:Passes CX X E)
  (I:Inv X pins σ H s) (r:Vals vs us) (h:sp (vs++BY) H Q E):wpAny (model X.prog X.w) X.A (call (.ref f) us) (EP X pins σ Q) X.xe s:=by
 have r2:Vals (vs++BY) (us++ds):=r.append hd;have hl:(us++ds).length=ps.length:=by rw[<- r2.length];exact F.len _ _ _ _ h
 refine wpAny_call (codeAny_mono (F.run X.A X.stack s H ⟨us,[]⟩ (us++ds) (vs++BY) Q E hr I.Po (hb s us I.ku hl) r2 h) λr s' hq=>?_);cases r with
 | error e=>exact hx pins σ H s e s' I hq
 | ok fl =>
  cases fl with
  | ret u=>exact I.after hq
  | next=>exact False.elim hq
  | brk=>exact False.elim hq
  | cont=>exact False.elim hq
theorem C8(F:hZ X.prog X.w X.K X.mg X.base CX k f fd ps sp)(hr:dG k X.A)(hg:Gl X x)(hm:X.mg x=some (.ref f))(hk:PySem.W.keepIn X.K (.ref f)=true)(hb:Binds X.K fd ps ds)(hd:Vals BY ds)(hx:Passes CX X E)
  (ha:PA X (e::es) t) (hdb:(x == ("__debug__" :Str))=false:=by decide) (he:starEach (e::es) X.env=(false,eval e X.env)::starEach es X.env:=by rfl) (hpl:(backTo pos (starEach es X.env)).any (·.1)=false:=by rfl) :
  PE X (.Call (.Name x p) (e::es) [] pos) (vJ sp BY E t):=by
 intro pins s σ H Q I h;refine wpAny_Call_Name_kw (vK I hg hm ?_ hdb);refine PySem.W.callWith_K (h₀ :=X.base) I.ok.mod.OD hk (cQ (ha pos pins s σ H _ I h) λus s1 ⟨vs,H1,I1,r,q⟩=>⟨I1.ku,?_⟩) he hpl;exact HI F hr hb hd hx I1 r q
structure Mk(K:PySem.W.Frag)(C f:Addr):Prop where
 makes:PySem.W.makesIn K C=true
 init:PySem.W.findIn K (.ref C) "__init__" =some (some (.ref f))
 fn:PySem.W.isFn K (.ref f)=true
 kp:PySem.W.keepIn K (.ref C)=true
end
section
variable{X:Cx}{CX:xN}{k:Nat}{f C:Addr}{fd:FuncData}{ps ks:List Str}{sp:Sp}{E:XK}{x m:Str}{p pos apos kpos:Pos}{e o:Expr}{es:List Expr}{kws:List Keyword}{te ta:TE}{t tk:TA}{nm:Option Str}
structure OL(K:PySem.W.Frag)(fd:FuncData)(ps ks:List Str)(g:List Value->List Value->List Value)(gV:List V->List V->List V):Prop where
 to: ∀(s:Shared)(us ws:List Value),K.In s.heap->(g us ws).length=ps.length->BindsTo s fd ⟨us,ks.zip ws⟩ (ps.zip (g us ws))
 rel: ∀{vs:List V}{us:List Value}{zs:List V}{ws:List Value},Vals vs us->Vals zs ws->Vals (gV vs zs) (g us ws)
variable{g:List Value->List Value->List Value}{gV:List V->List V->List V}
end
structure ay(N P:List Str)(sc:Scope):Prop where
 kind:sc.kind= .function
 co:sc.isCoroutine=false
 gen:sc.isGenerator=false
 nd:N.Nodup
 pre:N.take P.length=P
 par: ∀ x∈P,sc.names.lookup x=some .local\/sc.names.lookup x=some .cell
 Hj: ∀ y∈sc.names,y.2≠ .free
theorem pR{kindOf:Str->Option NameKind}{x:Str}: ∀{binds:List (Str × Value)}{m:Str->Option Value},(∀ v,(x,v) ∉ binds)->bindL kindOf binds m x=m x
 | [],_,_=>rfl
 | (n,v)::r,m,h=>by
  unfold bindL;rw[pR λw hw=>h w (List.mem_cons_of_mem _ hw)];split
  . have:x≠n:=by rintro rfl;exact h v List.mem_cons_self
    simp[this]
  . rfl
theorem pG{kindOf:Str->Option NameKind}{x:Str}: ∀{binds:List (Str × Value)}{m:Str->Option Value},(∀ v,(x,v) ∉ binds)->bindC kindOf binds m x=m x
 | [],_,_=>rfl
 | (n,v)::r,m,h=>by
  unfold bindC;rw[pG λw hw=>h w (List.mem_cons_of_mem _ hw)];split
  . rfl
  . have:x≠n:=by rintro rfl;exact h v List.mem_cons_self
    simp[this]
theorem pY{kindOf:Str->Option NameKind}{x:Str}{v:Value}: ∀{P:List Str}{vs:List Value}{i:Nat}{m:Str->Option Value},P.Nodup->P[i]?=some x->vs[i]?=some v->kindOf x=some .local ->
  bindL kindOf (P.zip vs) m x=some v
 | [],_,_,_,_,h,_,_=>by simp at h
 | _::_,[],_,_,_,_,h,_=>by simp at h
 | p::P,w::vs,0,m,nd,h1,h2,hk=>by
  simp at h1 h2;subst h1;subst h2;show bindL kindOf ((p,w)::P.zip vs) m p=_;unfold bindL;rw[pR λv hv=>(List.nodup_cons.mp nd).1 (List.of_mem_zip hv).1,if_pos hk];simp
 | p::P,w::vs,i+1,m,nd,h1,h2,hk=>by
  show bindL kindOf ((p,w)::P.zip vs) m x=_;unfold bindL;exact pY (i:=i) (List.nodup_cons.mp nd).2 (by simpa using h1) (by simpa using h2) hk
theorem p7{kindOf:Str->Option NameKind}{x:Str}{v:Value}: ∀{P:List Str}{vs:List Value}{i:Nat}{m:Str->Option Value},P.Nodup->P[i]?=some x->vs[i]?=some v->kindOf x≠some .local ->
  bindC kindOf (P.zip vs) m x=some v
 | [],_,_,_,_,h,_,_=>by simp at h
 | _::_,[],_,_,_,_,h,_=>by simp at h
 | p::P,w::vs,0,m,nd,h1,h2,hk=>by
  simp at h1 h2;subst h1;subst h2;show bindC kindOf ((p,w)::P.zip vs) m p=_;unfold bindC;rw[pG λv hv=>(List.nodup_cons.mp nd).1 (List.of_mem_zip hv).1,if_neg hk];simp
 | p::P,w::vs,i+1,m,nd,h1,h2,hk=>by
  show bindC kindOf ((p,w)::P.zip vs) m x=_;unfold bindC;exact p7 (i:=i) (List.nodup_cons.mp nd).2 (by simpa using h1) (by simpa using h2) hk
noncomputable def start(N:List Str)(vs:List V):St:=vs.map some++List.replicate (N.length - vs.length) none
noncomputable def jv(CX:xN)(P:Program)(w:World)(K:PySem.W.Frag)(mg:Str->Option Value)(base:Heap)(N:List Str)(qual:Str)(scope:Scope)(f:Addr)(cd:Value)(A:Around)(outer:List Env)(s:Shared)(H:Hp)(E:XK):Cx where
 prog:=P
 w:=w
 K:=K
 mg:=mg
 base:=base
 A:=A.deeper (envOfC qual scope s.heap.objs.size f cd)
 N:=N
 s₀ :=s
 H₀ :=H
 env:=envOfC qual scope s.heap.objs.size f cd
 outer:=outer
 stack:=envOfC qual scope s.heap.objs.size f cd::outer
 ex:=[]
 calm:=true
 fn:=λ_=>true
 pn:=[]
 xe:=λe s'=>wpAny (model P w) (A.deeper (envOfC qual scope s.heap.objs.size f cd)) (leaving (envOfC qual scope s.heap.objs.size f cd) e) (λ_ s''=>CX outer H s E e s'') (λe' s''=>CX outer H s E e' s'') s'
theorem se{sc:Scope}{n:Nat}{x:Str}(h:sc.names.lookup x=some .cell): ∃ c,(cellsFrom n sc.names []).lookup x=some c:=by
 have q:=PySem.W.cellsFrom_some sc.names n [] (.inl h);exact Option.isSome_iff_exists.mp q
theorem xE{CX:xN}{P:Program}{w:World}{K:PySem.W.Frag}{mg:Str->Option Value}{base:Heap}{N ps:List Str}{qual:Str}{scope:Scope}{f:Addr}{cd:Value}{A:Around}{outer:List Env}{s s1:Shared}{H:Hp}{E:XK}{us:List Value}{vs:List V}
  (S:ay N ps scope) (hd:A.handled=none) (e0:vA P w K mg base A outer s H) (hl:vs.length=ps.length) (r:Vals vs us)
  (x:InCallC s s.heap.objs.size (bindL (envOfC qual scope s.heap.objs.size f cd).kindOf (ps.zip us) λ_=>none) (cellsFrom (s.heap.objs.size+1) scope.names []) (bindC (envOfC qual scope s.heap.objs.size f cd).kindOf (ps.zip us) λ_=>none) s1) :
  Inv (jv CX P w K mg base N qual scope f cd A outer s H E) [] (start N vs) H s1:=by
 have hpl:ps.length<=N.length:=by have:=congrArg List.length S.pre;rw[List.length_take] at this;omega
 obtain⟨h1,tk,rfl,hk⟩:=x.done;have noA: ∀ b:Addr,b ∉ (jv CX P w K mg base N qual scope f cd A outer s H E).ex:=λb z=>absurd (show b∈([]:List Addr) from z) (by simp);refine⟨⟨e0.mod,S.kind,rfl,rfl,Nat.le_refl _,λy z c h1 h2=>?_,λy hy=>?_,λy c _ h=>?_,λ_=>hd,Around.frames_deeper e0.frames,.inr ⟨rfl,rfl⟩,λb z=>absurd z (noA b),e0.bs,e0.BZ,λb _ _=>noA b,λb z=>absurd z (noA b),e0.ky,e0.FQ⟩,
  rfl,e0.bare,Un.kept hk,⟨_,x.toInCall.ns,λi y v h1 h2 h3=>?_⟩,λy c h=>⟨_,x.cell y c h⟩,e0.bx.fresh (Nat.le_refl _),λy c h=>?_,λp hp=>absurd (show p∈([]:List (Addr × Obj)) from hp) (by simp),e0.bx.kept hk,?_⟩
 . exact name_of_addr x.apart (PySem.mem_of_lookup h1) (PySem.mem_of_lookup h2)
 . have hy:scope.names.lookup y=some .cell\/scope.names.lookup y=some .free:=hy;rcases hy with hy | hy
   . exact se hy
   . exact absurd rfl (S.Hj _ (PySem.mem_of_lookup hy))
 . exact Nat.le_of_lt (x.above y c (PySem.mem_of_lookup h))
 . have hi:i < vs.length:=by
    unfold start at h2;by_cases hi:i < vs.length
    . exact hi
    . rw[List.getElem?_append_right (by simpa using hi)] at h2;rw[List.getElem?_replicate] at h2;split at h2<;>cases h2
   have ha:vs[i]?=some v:=by
    unfold start at h2;rw[List.getElem?_append_left (by simpa using hi),List.getElem?_map] at h2;cases e:vs[i]? with
    | none=>rw[e] at h2;cases h2
    | some a=>rw[e] at h2;cases h2;rfl
   obtain⟨u,hu,rv⟩:=r.get ha;have hp:ps[i]?=some y:=by
    rw[<- S.pre,List.getElem?_take_of_lt (by omega)];exact h1
   have ndP:ps.Nodup:=by rw[<- S.pre];exact S.nd.sublist (List.take_sublist _ _)
   refine⟨u,rv,?_⟩;rcases S.par y (List.mem_of_getElem? hp) with k | k
   . exact .inl ⟨k,pY ndP hp hu k⟩
   . obtain⟨c,e⟩:=se (n:=s.heap.objs.size+1) k;refine .inr ⟨.inl k,c,e,?_⟩;have q:=x.cell y c e;rw[p7 ndP hp hu (by show scope.names.lookup y≠_;rw[k];decide)] at q;exact q
 . exact e0.bx.fresh (Nat.le_of_lt (x.above y c (PySem.mem_of_lookup h)))
 . unfold start;show _=N.length;rw[List.length_append,List.length_map,List.length_replicate];omega
theorem Nl{CX:xN}{P:Program}{w:World}{K:PySem.W.Frag}{mg:Str->Option Value}{base:Heap}{k:Nat}{f:Addr}{name qual:Str}{params:Arguments}{body:List Stmt}{scope:Scope}{dV kV doc pm cdv ct oc:Value}{an od:Option Addr}
  {osl:Array (Option Value)} {N ps:List Str} {sp:Sp} (lk:K.lookup f=some ⟨oc,od,.func (PySem.W.fnOf name qual params body scope dV kV doc pm an cdv ct),osl⟩) (hcd:PySem.W.codeIn K cdv qual=true) (S:ay N ps scope)
  (len: ∀ vs H Q E,sp vs H Q E->vs.length=ps.length)
  (hbody: ∀(A:Around)(outer:List Env)(s:Shared)(H:Hp)(vs:List V)(Q:VK)(E:XK),dG k (A.deeper (envOfC qual scope s.heap.objs.size f cdv))->sp vs H Q E ->
   ∃ t,uC (jv CX P w K mg base N qual scope f cdv A outer s H E) body t/\t { nx:=λ_ H'=>Q .non H',rt:=Q } (start N vs) H) :
  hZ P w K mg base CX (k+1) f (PySem.W.fnOf name qual params body scope dV kV doc pm an cdv ct) ps sp:=by
 refine⟨len,λA outer s H args us vs Q E hr e0 hb r hsp=>?_⟩;have hl:=len _ _ _ _ hsp;have KX:K.In s.heap:=e0.mod.OD.keeps λb o e=>(e0.bs b o e).1;have lim:s.heap.NoLimit:=e0.mod.nolimit.keeps λb o e=>(e0.bs b o e).1;have hkind: ∀ y∈ps.zip us,scope.names.lookup y.1=some .local\/(scope.names.lookup y.1=some .cell/\((cellsFrom (s.heap.objs.size+1) scope.names []).lookup y.1).isSome=true):=λ⟨n,v⟩ hy=>by
  rcases S.par n (List.of_mem_zip hy).1 with q | q
  . exact .inl q
  . exact .inr ⟨q,PySem.W.cellsFrom_some _ _ _ (.inl q)⟩
 refine codeAny_call_function hr.depth (KX _ _ lk) rfl S.co S.gen rfl (PySem.W.codeRec_of KX hcd) (hb _ _ _ _ ?_);refine wpAny_newFunctionEnv_cells S.kind hkind λenv he s1 x=>?_;subst he;refine⟨lim.keeps x.toInCall.keep,codeAny_func ?_⟩;obtain⟨t,ht,hq⟩:=hbody A outer s H vs Q E (hr.deeper _) hsp;have I:Inv (jv CX P w K mg base N qual scope f cdv A outer s H E) [] (start N vs) H s1:=xE S hr.hd e0 hl r x;refine wpAny_mono (ht [] s1 (start N vs) H _ I hq) (λfl s' hs=>?_) λe s' hs=>hs;have fin: ∀{σ':St}{H':Hp}{v:V}{u:Value},Inv (jv CX P w K mg base N qual scope f cdv A outer s H E) [] σ' H' s'->RelV v u->Q v H'->CE outer P w H s Q u s' :=
  λ{σ' H' v u} J rv q=>⟨v,H',J.os,J.bare,J.base,J.bx,rv,q⟩
 cases fl with
 | ret u =>
  obtain ⟨v, σ',H',J,rv,q⟩:=hs
  exact fin J rv q
 | next =>
  obtain ⟨σ',H',J,q⟩:=hs
  exact fin (v:=V.non) (u:=Value.none) J rfl q
 | brk =>
  obtain⟨_,_,_,q⟩:=hs
  exact False.elim q
 | cont =>
  obtain⟨_,_,_,q⟩:=hs
  exact False.elim q
section
variable{X:Cx}{x:Str}{p pos:Pos}{e:Expr}{es:List Expr}{t:TA}{id T:String}{r:List V->Hp->VK->Prop}
noncomputable def Hk(r:List V->Hp->VK->Prop)(t:TA):TE:=fun σ H Q=>t σ H λvs H1=>r vs H1 Q
theorem AQ(hc:aZ X (.builtin id) r)(hg:Gl X x)(hm:X.mg x=none)(hv:bootBuiltins x=some (.builtin id))(ha:PA X (e::es) t)(hn:x≠ "__name__" :=by decide)(hdb:(x == ("__debug__" :Str))=false:=by decide)
  (he:starEach (e::es) X.env=(false,eval e X.env)::starEach es X.env:=by rfl) (hpl:(backTo pos (starEach es X.env)).any (·.1)=false:=by rfl):PE X (.Call (.Name x p) (e::es) [] pos) (Hk r t):=by
 intro pins s σ H Q I h;refine wpAny_Call_Name_kw (kQ I hg hm hv ?_ hn hdb);exact PyProof.Rows.callWith_builtin1 (cQ (ha pos pins s σ H _ I h) λus s1 ⟨vs,H1,I1,r1,q1⟩=>hc pins s1 σ H1 vs us Q I1 r1 q1) he hpl
theorem yh(hc:aZ X (.type T) r)(hg:Gl X x)(hm:X.mg x=none)(hv:bootBuiltins x=some (.type T))(ha:PA X (e::es) t)(hn:x≠ "__name__" :=by decide)(hdb:(x == ("__debug__" :Str))=false:=by decide)
  (he:starEach (e::es) X.env=(false,eval e X.env)::starEach es X.env:=by rfl) (hpl:(backTo pos (starEach es X.env)).any (·.1)=false:=by rfl):PE X (.Call (.Name x p) (e::es) [] pos) (Hk r t):=by
 intro pins s σ H Q I h;refine wpAny_Call_Name_kw (kQ I hg hm hv ?_ hn hdb);exact PyProof.Rows.callWith_type1 (cQ (ha pos pins s σ H _ I h) λus s1 ⟨vs,H1,I1,r1,q1⟩=>hc pins s1 σ H1 vs us Q I1 r1 q1) he hpl
end
end L2
namespace HT
open PySem PyProof.Rows
section
variable{prog:Program}{w:World}{A:Around}{E:Value->Shared->Prop}{s:Shared}
theorem B4{t b:Addr}{vs ws:List Value}{Q:Value->Shared->Prop}(ht:IsTup s.heap t vs.toArray)(hb:IsTup s.heap b ws.toArray)(hv:vs≠[])
  (h1:ws=[]->Q (.ref t) s) (h2:ws≠[]->Q (.ref s.heap.objs.size) { s with heap:=s.heap.push { cls:= .type "tuple",data:= .seq (vs++ws).toArray } })
  (hsz:vs.length+ws.length<=sizeLine):wpAny (model prog w) A (binaryOp .Add (.ref t) (.ref b)) Q E s:=by
 obtain⟨⟨cls,dd,data,sl⟩,ho,hc,n,hd⟩:=id ht;obtain⟨⟨cls2,dd2,data2,sl2⟩,ho2,hc2,n2,hd2⟩:=id hb;simp only at hc hd hc2 hd2;subst hc hd hc2 hd2;have e:vs.toArray++ws.toArray=(vs++ws).toArray:=by simp
 by_cases hw:ws=[]
 . exact concat_meets ⟨_,ho,rfl⟩ ⟨_,ho2,rfl⟩ noFill_tuple_add seq_tuple_add PySem.F.slot_tuple_add PySem.F.entry_tuple_add (PySem.F.args_tuple_add_2 _ _)
    (tuple_addW1 t b vs.toArray ws.toArray n n2 dd dd2 sl sl2 (by simpa using hv) (by simp[hw])) ⟨ho,ho2,h1 hw⟩
 . refine concat_meets ⟨_,ho,rfl⟩ ⟨_,ho2,rfl⟩ noFill_tuple_add seq_tuple_add PySem.F.slot_tuple_add PySem.F.entry_tuple_add (PySem.F.args_tuple_add_2 _ _)
    (tuple_addW2 t b vs.toArray ws.toArray n n2 dd dd2 sl sl2 (by simpa using hv) (by simpa using hw) (by rw[List.size_toArray,List.size_toArray];exact hsz)) ⟨ho,ho2,?_⟩
   rw[e];exact h2 hw
noncomputable def dj(n d:Nat):Option Int->Nat
 | none=>d
 | some v=>if v < 0 then(v+(n:Int)).toNat else min v.toNat n
theorem j2(n d:Nat):dj n d none=d:=rfl
theorem l8(n d k:Nat):dj n d (some (k:Int))=min k n:=by
 show(if (k:Int) < 0 then((k:Int)+(n:Int)).toNat else min (k:Int).toNat n)=min k n;rw[if_neg (by omega),Int.toNat_natCast]
theorem Hu(n d:Nat)(hd:d<=n)(o:Option Int):dj n d o<=n:=by
 cases o with
 | none=>exact hd
 | some v =>
  show(if v < 0 then(v+(n:Int)).toNat else min v.toNat n)<=n
  by_cases hv:v < 0
  . rw[if_pos hv];omega
  . rw[if_neg hv];exact Nat.min_le_right _ _
theorem wL(v:Int)(n d:Nat):(if v < 0 then max (v+(n:Int)) 0 else min v (n:Int))=((dj n d (some v):Nat):Int):=by
 show(if v < 0 then max (v+(n:Int)) 0 else min v (n:Int))=(((if v < 0 then(v+(n:Int)).toNat else min v.toNat n):Nat):Int)
 by_cases hv:v < 0
 . simp only[if_pos hv];omega
 . simp only[if_neg hv];omega
theorem uK(lo hi:Option Int)(n:Nat):Builtin.Slice.sliceAdjust lo hi 1 (n:Int)=(((dj n 0 lo:Nat):Int),((dj n n hi:Nat):Int)):=by
 have h1: ¬ ((1:Int) < 0):=by omega
 unfold Builtin.Slice.sliceAdjust;simp only[h1,if_false];refine Prod.ext ?_ ?_
 . cases lo with
   | none=>rfl
   | some v=>exact wL v n 0
 . cases hi with
   | none=>rfl
   | some v=>exact wL v n n
theorem vm(i j:Nat):Builtin.Slice.slicePlaces (i:Int) (j:Int) 1=j - i:=by
 unfold Builtin.Slice.slicePlaces;have h1:(1:Int) > 0:=by omega
 simp only[h1,if_true,Int.ediv_one];split<;>omega
theorem nO{v:Value}{o:Option Int}{Q:Option Int->Shared->Prop}(p:IsPart v o)(h:Q o s):wpAny (model prog w) A (Builtin.Slice.slicePartIndex v) Q E s:=by
 cases p with
 | none=>exact slicePart_none h
 | int i t=>exact slicePart_int h
theorem gj{sl:Addr}{vl vu:Value}{lo hi:Option Int}{n:Nat}{Q:Int × Int × Nat->Shared->Prop}(hs:s.heap.IsSliceOf sl vl vu .none)(pl:IsPart vl lo)(pu:IsPart vu hi)
  (h:Q (((dj n 0 lo:Nat):Int),1,dj n n hi - dj n 0 lo) s):wpAny (model prog w) A (Builtin.Slice.sliceApplied (.ref sl) (pure (n:Int))) Q E s:=by
 obtain⟨os,hos,hcs,hds⟩:=id hs;unfold Builtin.Slice.sliceApplied Builtin.Slice.sliceFields;refine wpAny_bind (wpAny_bind (wpAny_field hos hds (x:=vl) rfl (wpAny_bind (wpAny_field hos hds (x:=vu) rfl (wpAny_bind (wpAny_field hos hds (x:= .none) rfl (wpAny_pure ?_)))))));refine wpAny_bind (slicePart_none ?_);show wpAny _ _ (if ((1:Int) == 0)=true then _ else _) _ _ s;rw[if_neg (by decide)];refine wpAny_bind (nO pl (wpAny_bind (nO pu (wpAny_bind (wpAny_pure ?_)))));show wpAny _ _ (match Builtin.Slice.sliceAdjust lo hi 1 (n:Int) with | (lo,hi)=>pure (lo,(1:Int),Builtin.Slice.slicePlaces lo hi 1)) _ _ s;rw[uK lo hi n];show wpAny _ _ (pure (((dj n 0 lo:Nat):Int),(1:Int),Builtin.Slice.slicePlaces ((dj n 0 lo:Nat):Int) ((dj n n hi:Nat):Int) 1)) _ _ s;rw[vm];exact wpAny_pure h
theorem Bs(xs:Array Value)(i k:Nat):((List.range k).filterMap λ(m:Nat)=>xs[((i:Int)+(m:Int)*1).toNat]?).toArray=((xs.toList.drop i).take k).toArray:=by
 have e:(λ(m:Nat)=>xs[((i:Int)+(m:Int)*1).toNat]?)=λm=>xs[i+m]?:=by
  funext m
  have:((i:Int)+(m:Int)*1).toNat=i+m:=by omega
  rw[this]
 rw[e];have:=pick_run xs i k;rw[List.filterMap_map] at this;have e2:((λx=>xs[x]?) ∘ λx=>i+x)=λm=>xs[i+m]?:=rfl;rw[e2] at this;rw [this]
theorem jO {t sl : Addr} {items : Array Value} {vl vu : Value} {lo hi : Option Int} {Q : Value -> Shared -> Prop} (ht : IsTup s.heap t items) (hs : s.heap.IsSliceOf sl vl vu .none) (pl : IsPart vl lo) (pu : IsPart vu hi)
    (hw : ¬ (dj items.size 0 lo = 0 /\ dj items.size items.size hi = items.size))
    (h : Q (.ref s.heap.objs.size) { s with heap := s.heap.push { cls := .type "tuple", data := .seq ((items.toList.drop (dj items.size 0 lo)).take (dj items.size items.size hi - dj items.size 0 lo)).toArray } })
    (hsz : items.size <= sizeLine) : wpAny (model prog w) A (getItem (.ref t) (.ref sl)) Q E s := by
  have htake : sizeOk (.seq ((items.toList.drop (dj items.size 0 lo)).take (dj items.size items.size hi - dj items.size 0 lo)).toArray) := by
    show ((items.toList.drop (dj items.size 0 lo)).take (dj items.size items.size hi - dj items.size 0 lo)).toArray.size <= sizeLine;rw [List.size_toArray, List.length_take, List.length_drop, Array.length_toList];omega
  have hj : dj items.size items.size hi <= items.size := Hu _ _ (Nat.le_refl _) hi;obtain ⟨os, hos, hcs, hds⟩ := id hs;have hTs : s.TypeIs (.ref sl) "slice" := ⟨os, hos, hcs⟩
  unfold getItem
  try with_reducible refine wpAny_holding ?_
  first | refine wpAny_bind (wpAny_pure ?_) | skip
  refine wpAny_bind (wpAny_sequenceKey ht.typeIs (by decide) ?_);refine wpAny_bind (wpAny_callSpecial?_slot (name := Str.ofString "__getitem__") ht.typeIs PyProof.Rows.slot_tuple_getitem
    (wpAny_call_entry PyProof.Rows.slot_tuple_getitem ht.typeIs entry_tuple_getitem ?_ (args_tuple_getitem _ _)))
  show wpAny _ _ (Builtin.Tuple.tupleItemsOf (.ref t) >>= _) _ _ s;refine wpAny_bind (tupleItemsOf_ ht ?_);refine wpAny_bind (wpAny_typeOf hTs ?_);rw [if_pos (by decide)];refine wpAny_bind (gj hs pl pu ?_);have hno : ¬ ((((dj items.size 0 lo : Nat) : Int) == 0 && (1 : Int) == 1 && (dj items.size items.size hi - dj items.size 0 lo) == items.size) = true) := by
    intro q;rw [Bool.and_eq_true, Bool.and_eq_true] at q;have q1 : ((dj items.size 0 lo : Nat) : Int) = 0 := eq_of_beq q.1.1;have q2 : dj items.size items.size hi - dj items.size 0 lo = items.size := eq_of_beq q.2;exact hw ⟨by omega, by omega⟩
  show wpAny _ _ (if (((dj items.size 0 lo : Nat) : Int) == 0 && (1 : Int) == 1 && (dj items.size items.size hi - dj items.size 0 lo) == items.size) = true then _ else _) _ _ s;rw [if_neg hno, Bs]
  first
    | exact wpAny_bind (m := Builtin.Tuple.tupleExact _) (wpAny_newObj_type (wpAny_pure ⟨_, rfl, wpAny_pure h⟩) htake)
    | exact wpAny_bind (m := Builtin.Tuple.tupleExact _) (wpAny_newObj_type (wpAny_bind (wpAny_pure (wpAny_pure ⟨_, rfl, wpAny_pure h⟩))) htake)
    | exact wpAny_bind (wpAny_bind (m := Builtin.Tuple.tupleExact _) (wpAny_newObj_type (wpAny_pure (wpAny_pure ⟨_, rfl, wpAny_pure h⟩)) htake))
    | exact wpAny_bind (wpAny_bind (m := Builtin.Tuple.tupleExact _) (wpAny_newObj_type (wpAny_pure ⟨_, rfl, wpAny_pure h⟩) htake))
end
end HT
namespace L2
open PySem PySem.Spec PyProof.Rows
abbrev TO:=St->Hp->(Option Int->Hp->Prop)->Prop
noncomputable def PO(X:Cx)(e:Option Expr)(t:TO):Prop :=
 ∀(pins:List (Addr × Obj))(s:Shared)(σ :St)(H:Hp)(Q:Option Int->Hp->Prop),Inv X pins σ H s->t σ H Q ->
  wpAny (model X.prog X.w) X.A (evalPart e X.env) (λu s'=> ∃ o H',Inv X pins σ H' s'/\IsPart u o/\Q o H') X.xe s
noncomputable def wu:TO:=λ_ H Q=>Q none H
noncomputable def Fi(t:TE):TO:=fun σ H Q=>t σ H λx H1=> ∃ i,x= .int i/\Q (some i) H1
section
variable{X:Cx}{e:Expr}{te:TE}{lo hi:Option Expr}{tl th:TO}{pos p2:Pos}
theorem E9:PO X none wu:=by
 intro pins s σ H Q I h;rw[evalPart_none];exact wpAny_pure ⟨none,H,I,.none,h⟩
theorem Cy(h:PE X e te):PO X (some e) (Fi te):=by
 intro pins s σ H Q I hw;rw[evalPart_some];refine cQ (h pins s σ H _ I hw) λu s1 ⟨x,H1,I1,r1,q1⟩=>?_;obtain⟨i,rfl,q⟩:=q1;obtain⟨t,rfl⟩:=r1;exact⟨some i,H1,I1,.int i t,q⟩
noncomputable def BV(X:Cx)(r:V->Option Int->Option Int->Hp->VK->Prop):Prop :=
 ∀(pins:List (Addr × Obj))(s:Shared)(σ :St)(H:Hp)(x:V)(v vl vu:Value)(lo hi:Option Int)(sl:Addr)(Q:VK),Inv X pins σ H s->RelV x v->s.heap.IsSliceOf sl vl vu .none->IsPart vl lo->IsPart vu hi->r x lo hi H Q ->
  ∃ T id,typeLookup (.type T) "__getitem__" =pure (some (.builtin id))/\s.TypeIs v T/\wpAny (model X.prog X.w) X.A (getItem v (.ref sl)) (EP X pins σ Q) X.xe s
theorem BV.or{r r':V->Option Int->Option Int->Hp->VK->Prop}(h:BV X r)(h':BV X r'):BV X (λx lo hi H Q=>r x lo hi H Q\/r' x lo hi H Q):=by
 intro pins s σ H x v vl vu lo hi sl Q I rx hs pl pu q;rcases q with q | q
 . exact h pins s σ H x v vl vu lo hi sl Q I rx hs pl pu q
 . exact h' pins s σ H x v vl vu lo hi sl Q I rx hs pl pu q
noncomputable def PQ(r:V->Option Int->Option Int->Hp->VK->Prop)(te:TE)(tl th:TO):TE:=fun σ H Q=>te σ H λx H1=>tl σ H1 λl H2=>th σ H2 λu H3=>r x l u H3 Q
theorem y6{r:V->Option Int->Option Int->Hp->VK->Prop}(hr:BV X r)(he:PE X e te)(hl:PO X lo tl)(hu:PO X hi th):PE X (.Subscript e (.Slice lo hi none p2) pos) (PQ r te tl th):=by
 intro pins s σ H Q I h;refine Subscript_ (cQ (he pins s σ H _ I h) λv s1 ⟨x,H1,I1,r1,q1⟩=>?_);refine wpAny_Slice (cQ (hl pins s1 σ H1 _ I1 q1) λvl s2 ⟨l,H2,I2,pl,q2⟩=>cQ (hu pins s2 σ H2 _ I2 q2) λvu s3 ⟨u,H3,I3,pu,q3⟩=>?_);rw[evalPart_none];refine wpAny_pure ?_;have I4:Inv X pins σ H3 { s3 with heap:=s3.heap.push { cls:= .type "slice",data:= .fields #[vl,vu,.none] } }:=I3.kept (t':=s3.toks) λb ob q=>Heap.get?_push_of_some _ q;obtain⟨T,id,hT,ht,hg⟩:=hr pins { s3 with heap:=s3.heap.push { cls:= .type "slice",data:= .fields #[vl,vu,.none] } } σ H3 x v vl vu l u s3.heap.objs.size Q I4 r1 (Heap.IsSliceOf.new ..) pl pu q3;show wpAny (model X.prog X.w) X.A (subscriptTail e (.Slice lo hi none p2) v (.ref s3.heap.objs.size)) (EP X pins σ Q) X.xe { s3 with heap:=s3.heap.push { cls:= .type "slice",data:= .fields #[vl,vu,.none] } };exact tail_any (ops:=[.ref s3.heap.objs.size,v]) ht hT hg (by with_unfolding_all rfl)
noncomputable def lS(xs:List V)(lo hi:Option Int):List V:=(xs.drop (HT.dj xs.length 0 lo)).take (HT.dj xs.length xs.length hi - HT.dj xs.length 0 lo)
theorem lq(xs:List V)(lo hi:Option Int):(lS xs lo hi).length<=xs.length:=by
 unfold lS;rw[List.length_take,List.length_drop];omega
noncomputable def L9(K:PySem.W.Frag):V->Option Int->Option Int->Hp->VK->Prop:=λx lo hi H Q=> ∃ a xs,x= .ref a/\fe K H a xs /\
 ¬ (HT.dj xs.length 0 lo=0/\HT.dj xs.length xs.length hi=xs.length)/\ ∀ p,H p=none->Q (.ref p) (upd H p (.tup (lS xs lo hi)))
theorem H9:BV X (L9 X.K):=by
 intro pins s σ H x v vl vu lo hi sl Q I rx hs pl pu h;obtain⟨a,xs,rfl,hx,hw,q⟩:=h;cases rx;obtain⟨av,r,ht,hz⟩:=I.tuple hx;have hlen:av.toArray.size=xs.length:=by rw[List.size_toArray];exact r.length.symm
 refine⟨"tuple",_,PyProof.Rows.slot_tuple_getitem.lookup,ht.typeIs,?_⟩;refine HT.jO ht hs pl pu (by rw[hlen];exact hw) ?_ (by rw[hlen];exact hz);rw[hlen];refine⟨.ref s.heap.objs.size,_,I.laid (t':=s.toks) (o:= .tup (lS xs lo hi)) (λb ob q=>Heap.get?_push_of_some _ q) (Nat.le_refl _) ?_,rfl,q _ (I.bx.fresh (Nat.le_refl _))⟩;exact⟨Nat.le_trans (lq xs lo hi) hz,_,(r.drop (HT.dj xs.length 0 lo)).take (HT.dj xs.length xs.length hi - HT.dj xs.length 0 lo),oT.new _ _⟩
noncomputable def Fm(K:PySem.W.Frag):R2:=λx y H Q=> ∃ a b xs ys,x= .ref a/\y= .ref b/\fe K H a xs/\fe K H b ys/\xs≠[]/\xs.length+ys.length<=sizeLine /\
 (ys=[]->Q (.ref a) H)/\(ys≠[]-> ∀ p,H p=none->Q (.ref p) (upd H p (.tup (xs++ys))))
theorem Vals.l6{xs:List V}{us:List Value}(r:Vals xs us):us=[]↔xs=[]:=by
 cases r with
 | nil=>simp
 | cons _ _=>simp
theorem Em:di X (binaryOp .Add) (Fm X.K):=by
 intro pins s σ H x y v u Q I rx ry h;obtain⟨a,b,xs,ys,rfl,rfl,ha,hb,hx,hz,q1,q2⟩:=h;cases rx;cases ry;obtain⟨av,r1,p1,_⟩:=I.tuple ha;obtain⟨its2,r2,p2,_⟩:=I.tuple hb;refine HT.B4 p1 p2 (λz=>hx (r1.l6.mp z)) (λz=>⟨.ref a,H,I,rfl,q1 (r2.l6.mp z)⟩) (λz=>?_) (by rw[<- r1.length,<- r2.length];exact hz);refine⟨.ref s.heap.objs.size,_,I.laid (t':=s.toks) (o:= .tup (xs++ys)) (λb ob q=>Heap.get?_push_of_some _ q) (Nat.le_refl _) ?_,rfl,q2 (λw=>z (r2.l6.mpr w)) _ (I.bx.fresh (Nat.le_refl _))⟩;exact⟨by rw[List.length_append];exact hz,_,r1.append r2,oT.new _ _⟩
end
noncomputable def qW(n:Nat)(i:Int):Option Nat:=if 0<=i then(if i < n then some i.toNat else none) else if -(n:Int)<=i then some (i+n).toNat else none
noncomputable def eP{α :Type}(xs:List α)(i:Int):Option α :=(qW xs.length i).bind λj=>xs[j]?
theorem wC{n:Nat}{i:Int}{j:Nat}(h:qW n i=some j):seqIndex? i n=some j/\j < n/\ -(n:Int)<=i/\i < n:=by
 unfold qW at h;by_cases h0:0<=i
 . rw[if_pos h0] at h;by_cases h1:i < n
   . rw[if_pos h1] at h;have e:i.toNat=j:=Option.some.inj h;exact⟨by rw[seqIndex_of h0 h1,e],by omega,by omega,h1⟩
   . rw[if_neg h1] at h;cases h
 . rw[if_neg h0] at h;by_cases h1: -(n:Int)<=i
   . rw[if_pos h1] at h;have e:(i+n).toNat=j:=Option.some.inj h;exact⟨by rw[seqIndex_neg (by omega) h1,e],by omega,h1,by omega⟩
   . rw[if_neg h1] at h;cases h
theorem qU{α :Type}{xs:List α}{i:Int}{v: α}(h:eP xs i=some v): ∃ j,seqIndex? i xs.length=some j/\xs[j]?=some v/\j < xs.length/\ -(xs.length:Int)<=i/\i < xs.length:=by
 unfold eP at h;cases e:qW xs.length i with
 | none=>rw[e] at h;cases h
 | some j =>
  rw[e] at h
  obtain⟨h1,h2,h3,h4⟩:=wC e
  exact⟨j,h1,h,h2,h3,h4⟩
theorem dJ{α :Type}{xs:List α}{j:Nat}{v: α}(h:xs[j]?=some v):eP xs (j:Int)=some v:=by
 have hj:j < xs.length:=(List.getElem?_eq_some_iff.mp h).1;have e:qW xs.length (j:Int)=some j:=by
  unfold qW;rw[if_pos (by omega),if_pos (by omega)];simp
 unfold eP;rw[e];exact h
noncomputable def qj(b:Expr):Prop:= ∀ o i,subscripted b false o i=operate [o,i] (getItem o i)
noncomputable def yi(X:Cx)(r:R2):Prop :=
 ∀(value slice:Expr)(pins:List (Addr × Obj))(s:Shared)(σ :St)(H:Hp)(x y:V)(v u:Value)(Q:VK),Inv X pins σ H s->RelV x v->RelV y u->r x y H Q ->
  subscripted slice false v u=operate [v,u] (getItem v u)->wpAny (model X.prog X.w) X.A (subscriptTail value slice v u) (EP X pins σ Q) X.xe s
noncomputable def FK(X:Cx)(id:String)(r:V->List V->Hp->VK->Prop):Prop :=
 ∀(pins:List (Addr × Obj))(s:Shared)(σ :St)(H:Hp)(x:V)(xs:List V)(v:Value)(us:List Value)(Q:VK),Inv X pins σ H s->RelV x v->Vals xs us->r x xs H Q ->
  wpAny (model X.prog X.w) X.A (call (.builtin id) (v::us)) (EP X pins σ Q) X.xe s
section
variable{X:Cx}{a b:Expr}{ta tb:TE}{pos:Pos}
theorem yi.or{r r':R2}(h:yi X r)(h':yi X r'):yi X (λx y H Q=>r x y H Q\/r' x y H Q):=by
 intro value slice pins s σ H x y v u Q I rx ry q hs;rcases q with q | q
 . exact h value slice pins s σ H x y v u Q I rx ry q hs
 . exact h' value slice pins s σ H x y v u Q I rx ry q hs
theorem MV{r:R2}(hr:yi X r)(ha:PE X a ta)(hb:PE X b tb)(hs:qj b):PE X (.Subscript a b pos) (Dm r ta tb):=by
 intro pins s σ H Q I h;exact Subscript_ (Jx ha hb I h λv u s2 x y H2 I2 rx ry q=>hr a b pins s2 σ H2 x y v u Q I2 rx ry q (hs _ _))
noncomputable def Ln(K:PySem.W.Frag):R2:=λx y H Q=> ∃ p xs i v,x= .ref p/\y= .int i/\gi K H p xs/\eP xs i=some v/\Q v H
noncomputable def Lu(K:PySem.W.Frag):R2:=λx y H Q=> ∃ p xs i v,x= .ref p/\y= .int i/\fe K H p xs/\eP xs i=some v/\Q v H
noncomputable def MR:R2:=λx y H Q=> ∃ z i c,x= .str z/\y= .int i/\z.length<=sizeLine/\eP z.cps.toList i=some c/\Q (.str ⟨#[c]⟩) H
theorem DG:yi X (Ln X.K):=by
 intro value slice pins s σ H x y v u Q I rx ry h hs;obtain⟨p,xs,i,z,rfl,rfl,hq,he,q⟩:=h;cases rx;obtain⟨t,rfl⟩:=ry;obtain⟨av,r,pl,hz⟩:=I.list hq;obtain⟨j,h1,h2,h3,h4,h5⟩:=qU he;obtain⟨w,ew,rw'⟩:=r.get h2;have hl:=r.length;have hn:=kX;have fin:EP X pins σ Q w s:=⟨z,H,I,rw',q⟩
 by_cases h0:0<=i
 . have hj:i.toNat=j:=by
    rw[seqIndex_of h0 h5] at h1;exact Option.some.inj h1
   exact item_listR pl.isList h0 (by omega) (by rw[hj];simpa using ew) fin hs
 . have hj:(i+(av.toArray.size:Int)).toNat=j:=by
    rw[seqIndex_neg (by omega) h4] at h1;rw[List.size_toArray,<- hl];exact Option.some.inj h1
   exact subscriptTail_builtinR (x:=w) pl.isList.typeIs slot_list_getitem.lookup
    (wpAny_getItem_list_neg (Q:=λr s'=>r=w/\EP X pins σ Q r s') pl.isList (by omega) (by rw[List.size_toArray]<;>omega) (by omega) (by rw[hj];simpa using ew) ⟨rfl,fin⟩) hs
theorem Hx:yi X (Lu X.K):=by
 intro value slice pins s σ H x y v u Q I rx ry h hs;obtain⟨p,xs,i,z,rfl,rfl,hq,he,q⟩:=h;cases rx;obtain⟨t,rfl⟩:=ry;obtain⟨av,r,pl,hz⟩:=I.tuple hq;obtain⟨j,h1,h2,h3,h4,h5⟩:=qU he;obtain⟨w,ew,rw'⟩:=r.get h2;have hl:=r.length;have hn:=kX;have fin:EP X pins σ Q w s:=⟨z,H,I,rw',q⟩
 exact subscriptTail_builtinR (x:=w) pl.typeIs slot_tuple_getitem.lookup
  (getItem_tuple (j:=j) (Q:=λr s'=>r=w/\EP X pins σ Q r s') pl (by omega) (by omega) (by rw[List.size_toArray,<- hl];exact h1) (by simpa using ew) ⟨rfl,fin⟩) hs
theorem Kq:yi X MR:=by
 intro value slice pins s σ H x y v u Q I rx ry h hs;obtain⟨z,i,c,rfl,rfl,hz,he,q⟩:=h;obtain⟨t,rfl⟩:=rx;obtain⟨t',rfl⟩:=ry;obtain⟨j,h1,h2,h3,h4,h5⟩:=qU he;have hl:z.cps.toList.length=z.length:=by simp[Str.length]
 rw[hl] at h1 h4 h5;have hn:=kX;exact tail_any (typeIs_str s z t) slot_str_getitem.lookup (getItem_str (c:=c) (by
  have e1:decide (i < -(2 ^ 63:Int))=false:=decide_eq_false (by omega);have e2:decide (i ≥ 2 ^ 63)=false:=decide_eq_false (by omega);rw[e1,e2,Bool.or_false]) (by rw[h1];simpa using h2) ⟨.str ⟨#[c]⟩,H,I.tok _,⟨_,rfl⟩,q⟩) hs
noncomputable def Qn(K:PySem.W.Frag):R2:=λx y H Q=>Ln K x y H Q\/Lu K x y H Q\/MR x y H Q
theorem Gq:yi X (Qn X.K):=DG.or (Hx.or Kq)
theorem uw(av:List Value)(n j:Nat)(u:Value):Obj.mapSeq (·.setIfInBounds j u) { cls:= .type "list",data:= .seq av.toArray n }={ cls:= .type "list",data:= .seq (av.set j u).toArray n }:=by
 simp[Obj.mapSeq]
theorem Inv.lst{pins:List (Addr × Obj)}{σ :St}{H:Hp}{s:Shared}{p:Addr}{xs:List V}(I:Inv X pins σ H s)(h:H p=some (.lst xs)) :
  ∃(av:List Value)(n:Nat),Vals xs av/\s.heap.get? p=some { cls:= .type "list",data:= .seq av.toArray n }/\xs.length<=sizeLine:=by
 obtain⟨z,av,n,r,e⟩:=I.bx p _ h;exact⟨av,n,r,e,z⟩
theorem Inv.Jy{pins:List (Addr × Obj)}{σ :St}{H:Hp}{s:Shared}{p:Addr}{xs ys:List V}{av its':List Value}{n n':Nat}{f:Obj->Obj}(I:Inv X pins σ H s)(h:H p=some (.lst xs))
  (ho:s.heap.get? p=some { cls:= .type "list",data:= .seq av.toArray n }) (hf:f { cls:= .type "list",data:= .seq av.toArray n }={ cls:= .type "list",data:= .seq its'.toArray n' }) (r:Vals ys its') (hz:ys.length<=sizeLine) (t:Nat) :
  Inv X pins σ (upd H p (.lst ys)) { s with heap:=s.heap.update p f,toks:=t }:=by
 have e:(s.heap.update p f).get? p=some { cls:= .type "list",data:= .seq its'.toArray n' }:=by
  rw[Heap.get?_update_self f ho (by rw[hf]<;>rfl),hf]
 refine I.write (x:=p) (e:=p) (by rw[h];trivial) (.inl rfl) (λb u hb q=>(Heap.get?_update_other _ _ (Ne.symm hb)).trans q) ⟨_,e⟩ ?_;exact⟨hz,its',n',r,e⟩
noncomputable def Lv:V->V->V->Hp->(Hp->Prop)->Prop:=λo i v H Q=> ∃ p xs k j,o= .ref p/\i= .int k/\H p=some (.lst xs)/\qW xs.length k=some j/\Q (upd H p (.lst (xs.set j v)))
theorem set_list:oI X Lv:=by
 intro pins s σ H o i v ov iv u Q I ro ri rv h;obtain⟨p,xs,k,j,rfl,rfl,hp,hj,q⟩:=h;cases ro;obtain⟨t,rfl⟩:=ri;obtain⟨av,n,r,ho,hz⟩:=I.lst hp;obtain⟨h1,h2,h3,h4⟩:=wC hj;have hl:=r.length;have hn:=kX;have I':Inv X pins σ (upd H p (.lst (xs.set j v))) { s with heap:=s.heap.update p (Obj.mapSeq (·.setIfInBounds j u)) } :=
  I.Jy hp ho (uw av n j u) (r.set rv j) (by rw[List.length_set];exact hz) s.toks
 by_cases h0:0<=k
 . have hk:k.toNat=j:=by
    rw[seqIndex_of h0 h4] at h1;exact Option.some.inj h1
   exact PySem.W.ki_setAt ho h0 (by omega) (by rw[List.size_toArray,<- hl];exact h4) (by rw[hk];exact⟨_,I',q⟩)
 . have hk:(k+(av.toArray.size:Int)).toNat=j:=by
    rw[seqIndex_neg (by omega) h3] at h1;rw[List.size_toArray,<- hl];exact Option.some.inj h1
   exact PySem.W.ki_setBack ho (by omega) (by rw[List.size_toArray,<- hl];exact h3) (by omega) (by rw[hk];exact⟨_,I',q⟩)
theorem qp(lo hi:Option Int)(n:Nat):(sliceBounds lo hi none n).1=((HT.dj n 0 lo:Nat):Int)/\(sliceBounds lo hi none n).2.1=((HT.dj n n hi:Nat):Int)/\(sliceBounds lo hi none n).2.2=1:=by
 refine⟨?_,?_,rfl⟩
 . cases lo with
   | none=>simp[sliceBounds,HT.dj]
   | some i =>
    simp only[sliceBounds,HT.dj,Option.getD_none,show(1:Int) > 0 by decide,if_true]
    by_cases h:i < 0
    . simp only[h,if_true]<;>omega
    . simp only[h,if_false]<;>omega
 . cases hi with
   | none=>simp[sliceBounds,HT.dj]
   | some i =>
    simp only[sliceBounds,HT.dj,Option.getD_none,show(1:Int) > 0 by decide,if_true]
    by_cases h:i < 0
    . simp only[h,if_true]<;>omega
    . simp only[h,if_false]<;>omega
theorem oY(av:List Value)(lo hi:Option Int):slicePick av.toArray lo hi none=((av.drop (HT.dj av.length 0 lo)).take (HT.dj av.length av.length hi - HT.dj av.length 0 lo)).toArray:=by
 obtain⟨h1,h2,h3⟩:=qp lo hi av.toArray.size;unfold slicePick;rw[h1,h2,h3];simp only[sliceRange_one,pick_run,List.size_toArray]<;>rfl
noncomputable def Mb(K:PySem.W.Frag):V->Option Int->Option Int->Hp->VK->Prop:=λx lo hi H Q=> ∃ a xs,x= .ref a/\gi K H a xs/\ ∀ p,H p=none->Q (.ref p) (upd H p (.lst (lS xs lo hi)))
theorem Et:BV X (Mb X.K):=by
 intro pins s σ H x v vl vu lo hi sl Q I rx hs pl pu h;obtain⟨a,xs,rfl,hx,q⟩:=h;cases rx;obtain⟨av,r,ht,hz⟩:=I.list hx;have hlen:=r.length;refine⟨"list",_,slot_list_getitem.lookup,ht.isList.typeIs,?_⟩;refine wpAny_getItem_list_slice ht.isList hs pl pu .none (by simp) ?_ (by rw[List.size_toArray]<;>omega);rw[oY,<- hlen];refine⟨.ref s.heap.objs.size,_,I.laid (t':=s.toks) (o:= .lst (lS xs lo hi)) (λb ob q=>Heap.get?_push_of_some _ q) (Nat.le_refl _) ?_,rfl,q _ (I.bx.fresh (Nat.le_refl _))⟩;exact⟨Nat.le_trans (lq xs lo hi) hz,_,0,(r.drop (HT.dj xs.length 0 lo)).take (HT.dj xs.length xs.length hi - HT.dj xs.length 0 lo),Heap.get?_push_size _ rfl⟩
noncomputable def g7:V->Bool
 | .non=>true
 | .bl _=>true
 | .int _=>true
 | .str _=>true
 | _=>false
noncomputable def C1:V->V->Bool
 | .non,.non=>true
 | .bl a,.bl b=>a == b
 | .bl a,.int b=>(if a then 1 else 0) == b
 | .int a,.bl b=>a == (if b then 1 else 0)
 | .int a,.int b=>a == b
 | .str a,.str b=>a == b
 | _,_=>false
theorem Ho{A:Around}{s:Shared}{y x:V}{u v:Value}(ry:RelV y u)(rx:RelV x v)(fy:g7 y=true)(fx:g7 x=true):SeqAt.EqAt A s u v (C1 y x):=by
 cases y with
 | non =>
  cases ry
  cases x with
  | non=>cases rx;exact SeqAt.EqAt.same _
  | bl b=>cases rx;exact SeqAt.EqAt.none_bool b
  | int b=>obtain⟨t,rfl⟩:=rx;exact SeqAt.EqAt.none_int b t
  | str b=>obtain⟨t,rfl⟩:=rx;exact SeqAt.EqAt.none_str b t
  | _=>exact absurd (show false=true from fx) Bool.false_ne_true
 | bl a =>
  cases ry
  cases x with
  | non=>cases rx;exact SeqAt.EqAt.bool_none a
  | bl b=>cases rx;exact SeqAt.EqAt.bool_bool a b
  | int b=>obtain⟨t,rfl⟩:=rx;exact SeqAt.EqAt.bool_int a b t
  | str b=>obtain⟨t,rfl⟩:=rx;exact SeqAt.EqAt.bool_str a b t
  | _=>exact absurd (show false=true from fx) Bool.false_ne_true
 | int a =>
  obtain⟨t',rfl⟩:=ry
  cases x with
  | non=>cases rx;exact SeqAt.EqAt.int_none a t'
  | bl b=>cases rx;exact SeqAt.EqAt.int_bool a t' b
  | int b=>obtain⟨t,rfl⟩:=rx;exact SeqAt.EqAt.int_int a t' b t
  | str b=>obtain⟨t,rfl⟩:=rx;exact SeqAt.EqAt.int_str a t' b t
  | _=>exact absurd (show false=true from fx) Bool.false_ne_true
 | str a =>
  obtain⟨t',rfl⟩:=ry
  cases x with
  | non=>cases rx;exact SeqAt.EqAt.str_none a t'
  | bl b=>cases rx;exact SeqAt.EqAt.str_bool a t' b
  | int b=>obtain⟨t,rfl⟩:=rx;exact SeqAt.EqAt.str_int a t' b t
  | str b=>obtain⟨t,rfl⟩:=rx;exact SeqAt.EqAt.str_str a t' b t
  | _=>exact absurd (show false=true from fx) Bool.false_ne_true
 | _=>exact absurd (show false=true from fy) Bool.false_ne_true
noncomputable def vh(x:V)(u:Value):Bool:=match u with
 | .none=>C1 .non x
 | .bool b=>C1 (.bl b) x
 | .int i _=>C1 (.int i) x
 | .str z _=>C1 (.str z) x
 | _=>false
theorem BJ{x y:V}{u:Value}(r:RelV y u)(f:g7 y=true):vh x u=C1 y x:=by
 cases y with
 | non=>cases r;rfl
 | bl b=>cases r;rfl
 | int i=>obtain⟨t,rfl⟩:=r;rfl
 | str z=>obtain⟨t,rfl⟩:=r;rfl
 | _=>exact absurd (show false=true from f) Bool.false_ne_true
theorem jQ{x:V}: ∀{xs:List V}{us:List Value},Vals xs us->xs.all g7=true->us.any (vh x)=xs.any λy=>C1 y x
 | _,_,.nil,_=>rfl
 | y::xs,u::us,.cons r t,f=>by
  rw[List.all_cons,Bool.and_eq_true] at f;rw[List.any_cons,List.any_cons,BJ r f.1,jQ t f.2]
theorem ik{A:Around}{s:Shared}{x:V}{v:Value}(rx:RelV x v)(fx:g7 x=true): ∀{xs:List V}{us:List Value},Vals xs us->xs.all g7=true-> ∀ u∈us,SeqAt.EqAt A s u v (vh x u)
 | _,_,.nil,_=>λu hu=>by cases hu
 | y::xs,u::us,.cons r t,f=>λu' hu=>by
  rw[List.all_cons,Bool.and_eq_true] at f;rcases List.mem_cons.mp hu with rfl | hu
  . rw[BJ r f.1];exact Ho r rx f.1 fx
  . exact ik rx fx t f.2 u' hu
noncomputable def NM(x:V)(xs:List V):Bool:=xs.any λy=>C1 y x
noncomputable def PX(K:PySem.W.Frag)(neg:Bool):R2:=λx y H Q=> ∃ p xs,y= .ref p/\(gi K H p xs\/fe K H p xs)/\g7 x=true/\xs.all g7=true/\Q (.bl (if neg then !NM x xs else NM x xs)) H
theorem xK:di X (compareOp .In) (PX X.K false):=by
 intro pins s σ H x y v u Q I rx ry h;obtain⟨p,xs,rfl,hq,fx,fs,q⟩:=h;cases ry;rcases hq with hq | hq
 . obtain⟨av,r,pl,hz⟩:=I.list hq;refine SeqAt.in_listAt (vh x) pl.isList (λw hw=>ik rx fx r fs w (by simpa using hw)) ⟨.bl _,H,I,rfl,?_⟩;rw[show av.toArray.any (vh x)=av.any (vh x) by simp,jQ r fs];exact q
 . obtain⟨av,r,pl,hz⟩:=I.tuple hq;refine SeqAt.in_tupleAt (vh x) pl (λw hw=>ik rx fx r fs w (by simpa using hw)) ⟨.bl _,H,I,rfl,?_⟩;rw[show av.toArray.any (vh x)=av.any (vh x) by simp,jQ r fs];exact q
theorem qc:di X (compareOp .NotIn) (PX X.K true):=by
 intro pins s σ H x y v u Q I rx ry h;obtain⟨p,xs,rfl,hq,fx,fs,q⟩:=h;cases ry;rcases hq with hq | hq
 . obtain⟨av,r,pl,hz⟩:=I.list hq;refine SeqAt.notIn_listAt (vh x) pl.isList (λw hw=>ik rx fx r fs w (by simpa using hw)) ⟨.bl _,H,I,rfl,?_⟩;rw[show av.toArray.any (vh x)=av.any (vh x) by simp,jQ r fs];exact q
 . obtain⟨av,r,pl,hz⟩:=I.tuple hq;refine SeqAt.notIn_tupleAt (vh x) pl (λw hw=>ik rx fx r fs w (by simpa using hw)) ⟨.bl _,H,I,rfl,?_⟩;rw[show av.toArray.any (vh x)=av.any (vh x) by simp,jQ r fs];exact q
theorem qb:di X (compareOp .NotIn) (λx y H Q=> ∃ i j,x= .str i/\y= .str j/\Q (.bl (!(!(Builtin.Str.occurrences j i 0 j.length 1).isEmpty))) H):=by
 intro pins s σ H x y v u Q I rx ry h;obtain⟨i,j,rfl,rfl,q⟩:=h;obtain⟨t,rfl⟩:=rx;obtain⟨t',rfl⟩:=ry;exact notIn_str ⟨.bl _,H,I,rfl,q⟩
theorem rA:aZ X (.builtin "len") (λxs H Q=> ∃ p ys,xs=[.ref p]/\(gi X.K H p ys\/fe X.K H p ys)/\Q (.int ys.length) H):=by
 intro pins s σ H xs us Q I r h;obtain⟨p,ys,rfl,hq,q⟩:=h;obtain⟨u,rfl,rx⟩:=vals1 r;cases rx;have hn:=kX;rcases hq with hq | hq
 . obtain⟨av,r',pl,hz⟩:=I.list hq;have hlen:=r'.length;exact Calls.call_len_list pl.isList (by simp only[List.size_toArray]<;>omega) ⟨.int ys.length,H,I.tok _,⟨s.toks+1,by rw[List.size_toArray,hlen]⟩,q⟩
 . obtain⟨av,r',pl,hz⟩:=I.tuple hq;have hlen:=r'.length;exact len_tuple pl (by simp only[List.size_toArray]<;>omega) ⟨.int ys.length,H,I.tok _,⟨s.toks+1,by rw[List.size_toArray,hlen]⟩,q⟩
theorem qG:aZ X (.builtin "len") (λxs H Q=> ∃ z,xs=[.str z]/\z.length<=sizeLine/\Q (.int z.length) H):=by
 intro pins s σ H xs us Q I r h;obtain⟨z,rfl,hz,q⟩:=h;obtain⟨u,rfl,t,rfl⟩:=vals1 r;have hn:=kX;exact len_str (by omega) ⟨.int z.length,H,I.tok _,⟨_,rfl⟩,q⟩
theorem aZ.or{f:Value}{r r':List V->Hp->VK->Prop}(h:aZ X f r)(h':aZ X f r'):aZ X f (λxs H Q=>r xs H Q\/r' xs H Q):=by
 intro pins s σ H xs us Q I rs q;rcases q with q | q
 . exact h pins s σ H xs us Q I rs q
 . exact h' pins s σ H xs us Q I rs q
theorem rf:aZ X (.type "list") (λxs H Q=> ∃ p ys,xs=[.ref p]/\(gi X.K H p ys\/fe X.K H p ys)/\ ∀ l,H l=none->Q (.ref l) (upd H l (.lst ys))):=by
 intro pins s σ H xs us Q I r h;obtain⟨p,ys,rfl,hq,q⟩:=h;obtain⟨u,rfl,rx⟩:=vals1 r;cases rx;have fin: ∀(av:List Value),Vals ys av->ys.length<=sizeLine-> ∀(h':Heap)(c':Nat),(∀ b o',s.heap.get? b=some o'->h'.get? b=some o') ->
   h'.get? s.heap.objs.size=some { cls:= .type "list",dict:=none,data:= .seq av.toArray c',slots:= #[] }->EP X pins σ Q (.ref s.heap.objs.size) { s with heap:=h' }:=λav r' hz h' c' kp e =>
  ⟨.ref s.heap.objs.size,_,I.laid (t':=s.toks) kp (Nat.le_refl _) (show bg X.prog X.w _ h' _ (.lst ys) from⟨hz,av,c',r',e⟩),rfl,q _ (I.bx.fresh (Nat.le_refl _))⟩
 rcases hq with hq | hq
 . obtain⟨av,r',pl,hz⟩:=I.list hq;have hlen:=r'.length;obtain⟨o,ho,hc,n,hd⟩:=pl.isList;exact call_list_seq p (.inl rfl) ho hc hd (λh' c' kp e=>fin av r' hz h' c' kp e) (by simp only[List.size_toArray]<;>omega)
 . obtain⟨av,r',pl,hz⟩:=I.tuple hq;have hlen:=r'.length;obtain⟨o,ho,hc,n,hd⟩:=pl;exact call_list_seq p (.inr rfl) ho hc hd (λh' c' kp e=>fin av r' hz h' c' kp e) (by simp only[List.size_toArray]<;>omega)
theorem oM:aZ X (.type "tuple") (λxs H Q=> ∃ p ys,xs=[.ref p]/\((gi X.K H p ys/\ ∀ l,H l=none->Q (.ref l) (upd H l (.tup ys)))\/(fe X.K H p ys/\Q (.ref p) H))):=by
 intro pins s σ H xs us Q I r h;obtain⟨p,ys,rfl,h⟩:=h;obtain⟨u,rfl,rx⟩:=vals1 r;cases rx;rcases h with⟨hq,q⟩ | ⟨hq,q⟩
 . obtain⟨av,r',pl,hz⟩:=I.list hq;have hlen:=r'.length;refine call_tuple_list pl.isList (λh' kp=>?_) (by simp only[List.size_toArray]<;>omega);have I1:Inv X pins σ H { s with heap:=h' }:=I.kept (t':=s.toks) kp;have I2:Inv X pins σ (upd H h'.objs.size (.tup ys)) { s with heap:=h'.push { cls:= .type "tuple",data:= .seq av.toArray } } :=
    I1.laid (t':=s.toks) (λb o e=>Heap.get?_push_of_some _ e) (Nat.le_refl _) (show bg X.prog X.w _ _ _ (.tup ys) from⟨hz,av,r',oT.new _ _⟩)
   exact⟨.ref h'.objs.size,_,I2,rfl,q _ (I1.bx.fresh (Nat.le_refl _))⟩
 . obtain⟨av,r',pl,hz⟩:=I.tuple hq;exact call_tuple_same pl ⟨.ref p,H,I,rfl,q⟩
noncomputable def Mj(K:PySem.W.Frag)(T:String)(x:V)(H:Hp):Prop:=match x with
 | .str _=>T= "str"
 | .int _=>T= "int"
 | .ref p=>(T= "list" /\ ∃ xs,gi K H p xs)\/(T= "tuple" /\ ∃ o,K.lookup p=some o/\o.cls= .type "tuple" /\o.dict=none) \/
   (T= "dict" /\((∃ kvs,H p=some (.dK kvs))\/ ∃ kvs,H p=some (.dT kvs)))\/(T= "set" /\ ∃ S n,H p=some (.set S n))
 | _=>False
theorem IW{pins:List (Addr × Obj)}{σ :St}{H:Hp}{s:Shared}{T:String}{x:V}{v:Value}(I:Inv X pins σ H s)(r:RelV x v)(ty:Mj X.K T x H) :
  s.TypeIs v T/\ ∀ a,v= .ref a-> ∃ ob,s.heap.get? a=some ob/\ob.dict=none:=by
 cases x with
 | str z =>
  obtain⟨t,rfl⟩:=r
  cases(show T= "str" from ty)
  exact⟨typeIs_str s z t,λ_ e=>nomatch e⟩
 | int i =>
  obtain⟨t,rfl⟩:=r
  cases(show T= "int" from ty)
  exact⟨typeIs_int s i t,λ_ e=>nomatch e⟩
 | ref p =>
  cases r
  rcases ty with⟨rfl,xs,hq⟩ | ⟨rfl,o,hk,hc,hd⟩ | ⟨rfl,hk⟩ | ⟨rfl,S,n,hk⟩
  . obtain⟨av,_,pl,_⟩:=I.list hq;refine⟨pl.isList.typeIs,λa e=>?_⟩;cases e;obtain⟨o,n,e,c,hd,_⟩:=pl;exact⟨o,e,hd⟩
  . refine⟨⟨o,I.ku p o hk,hc⟩,λa e=>?_⟩;cases e;exact⟨o,I.ku _ o hk,hd⟩
  . have z: ∃ o,s.heap.get? p=some o/\o.ExactDict:=by
     rcases hk with⟨kvs,hk⟩ | ⟨kvs,hk⟩
     . obtain⟨_,_,_,_,o,_,_,e,ex,_⟩:=I.bx p _ hk;exact⟨o,e,ex⟩
     . obtain⟨_,_,_,_,o,_,_,e,ex,_⟩:=I.bx p _ hk;exact⟨o,e,ex⟩
    obtain⟨o,e,ex⟩:=z;refine⟨⟨o,e,ex.1⟩,λa e2=>?_⟩;cases e2;exact⟨o,e,ex.2.1⟩
  . obtain⟨o,_,_,_,e,ex,_⟩:=I.bx p _ hk;refine⟨⟨o,e,ex.1⟩,λa e2=>?_⟩;cases e2;exact⟨o,e,ex.2.1⟩
 | _=>exact False.elim ty
noncomputable def P8(K:PySem.W.Frag)(T:String)(r:V->List V->Hp->VK->Prop)(to:TE)(t:TA):TE:=fun σ H Q=>to σ H λx H1=>Mj K T x H1/\t σ H1 λxs H2=>r x xs H2 Q
variable{o e:Expr}{es:List Expr}{to:TE}{t:TA}{name:Str}{apos cpos:Pos}{T id:String}{r:V->List V->Hp->VK->Prop}
theorem Mm(pa:PlainAttrs T)(slot:Slot T name id)(hty:typeOf (.builtin id)=pure (.type "method_descriptor"))(hm:FK X id r)(ho:PE X o to)(ha:PA X (e::es) t)
  (hbase:attributeBase o name X.env (eval o X.env)=eval o X.env:=by rfl)
  (hfew:((backTo cpos (starEach (e::es) X.env)).all (λx=> !x.1)&&(backToKw cpos (keywordEach [] X.env)).all (λx=>x.1.isSome)
   && decide ((e::es).length+([]:List Keyword).length+(if ([]:List Keyword).isEmpty then 0 else 1) < 30))=true:=by rfl)
  (hline:(apos.endLine == cpos.line)=true:=by rfl) (hs:starEach (e::es) X.env=(false,eval e X.env)::starEach es X.env:=by rfl) (hplain:(backTo cpos (starEach es X.env)).any (·.1)=false:=by rfl) :
  PE X (.Call (.Attribute o name apos) (e::es) [] cpos) (P8 X.K T r to t):=by
 intro pins s σ H Q I h;refine wpAny_Call_method_late hbase hfew hline rfl (cQ (ho pins s σ H _ I h) λv s1 ⟨x,H1,I1,r1,ty,q1⟩=>?_);obtain⟨h1,h2⟩:=IW I1 r1 ty;refine⟨T,id,pa,slot,hty,h1,h2,?_⟩;have hA:=ha cpos pins s1 σ H1 _ I1 q1;rw[hs] at hA ⊢;refine Calls.callWith_builtin (by show(false||(backTo cpos (starEach es X.env)).any (·.1))=false;rw[hplain]<;>rfl) (Calls.evalArgs_plain ?_)
 exact cQ hA λus s2 ⟨vs,H2,I2,r2,q2⟩=>hm pins s2 σ H2 x vs v us Q I2 r1 r2 q2
/- xs.append(e),list.index on a module's tuple .. are FK facts of 06m -/
end
noncomputable def Qg(X:Cx)(id:String)(r:V->List V->Hp->VK->Prop):Prop :=
 ∀(pins:List (Addr × Obj))(s:Shared)(σ :St)(H:Hp)(x:V)(xs:List V)(v:Value)(us:List Value)(Q:VK),Inv X pins σ H s->RelV x v->Vals xs us->r x xs H Q ->
  wpAny (model X.prog X.w) X.A (call (.builtin id) (v::us)) (EP X pins σ Q) X.xe s
theorem Vals.one: ∀{x:V}{us:List Value},Vals [x] us-> ∃ u,us=[u]/\RelV x u
 | _,_,.cons r .nil=>⟨_,rfl,r⟩
theorem Vals.two: ∀{x y:V}{us:List Value},Vals [x,y] us-> ∃ u v,us=[u,v]/\RelV x u/\RelV y v
 | _,_,_,.cons r (.cons q .nil)=>⟨_,_,rfl,r,q⟩
theorem Vals.zero: ∀{us:List Value},Vals [] us->us=[]
 | _,.nil=>rfl
theorem Vals.eraseIdx: ∀{xs:List V}{us:List Value}(i:Nat),Vals xs us->Vals (xs.eraseIdx i) (us.eraseIdx i)
 | _,_,_,.nil=> .nil
 | _,_,0,.cons _ t=>t
 | _,_,i+1,.cons r t=> .cons r (Vals.eraseIdx i t)
theorem Vals.rep{xs:List V}{us:List Value}(h:Vals xs us): ∀ k:Nat,Vals (List.replicate k xs).flatten (List.replicate k us).flatten
 | 0=> .nil
 | k+1=>by
  rw[List.replicate_succ,List.replicate_succ,List.flatten_cons,List.flatten_cons];exact Vals.append h (Vals.rep h k)
theorem pV{α :Type}: ∀(l:List α)(i:Nat),(l.eraseIdx i).length<=l.length
 | [],_=>Nat.le_refl _
 | _::_,0=>Nat.le_succ _
 | _::r,i+1=>Nat.succ_le_succ (pV r i)
theorem foldl_rep(av:List Value): ∀(k:Nat)(acc:List Value),
  List.foldl (λx1 x2=>x1++x2) acc.toArray (List.replicate k av.toArray)=(acc++(List.replicate k av).flatten).toArray
 | 0,acc=>by simp
 | k+1,acc=>by
  have e:acc.toArray++av.toArray=(acc++av).toArray:=by simp
  have e2:(acc++av)++(List.replicate k av).flatten=acc++(List.replicate (k+1) av).flatten:=by
   rw[List.replicate_succ,List.flatten_cons,List.append_assoc]
  rw[<- e2,<- foldl_rep av k (acc++av),<- e,List.replicate_succ,List.foldl_cons]
section
variable{X:Cx}{pins:List (Addr × Obj)}{σ :St}{H:Hp}{s:Shared}{l b:Addr}{xs ys zs:List V}
theorem Inv.Ld{av its':List Value}{n:Nat}{f:Array Value->Array Value}{t':Nat}(I:Inv X pins σ H s)(hH:H l=some (.lst xs))
  (e:s.heap.get? l=some { cls:= .type "list",data:= .seq av.toArray n }) (hf:f av.toArray=its'.toArray) (hv:Vals ys its') (hz:ys.length<=sizeLine) :
  Inv X pins σ (upd H l (.lst ys)) { s with heap:=s.heap.update l (Obj.mapSeq f),toks:=t' }:=by
 have q:=PySem.IsL.update e f;rw[hf] at q;refine I.write (x:=l) (e:=l) (by rw[hH];exact trivial) (.inl rfl) (λb' u hb hu=>(Heap.get?_update_other s.heap (Obj.mapSeq f) (Ne.symm hb)).trans hu) ⟨_,q⟩ ?_;exact⟨hz,its',_,hv,q⟩
theorem Inv.Nm{av:List Value}{t':Nat}(I:Inv X pins σ H s)(hv:Vals ys av)(hz:ys.length<=sizeLine) :
  Inv X pins σ (upd H s.heap.objs.size (.lst ys)) { s with heap:=s.heap.push { cls:= .type "list",data:= .seq av.toArray },toks:=t' } :=
 I.laid (λ_ _ q=>Heap.get?_push_of_some _ q) (Nat.le_refl _) ⟨hz,av,0,hv,Heap.get?_push_size _ rfl⟩
theorem Inv.fresh(I:Inv X pins σ H s):H s.heap.objs.size=none:=I.bx.fresh (Nat.le_refl _)
theorem Inv.zo(I:Inv X pins σ H s)(hH:H l=some (.lst xs)):xs.length<=sizeLine/\ ∃(av:List Value)(n:Nat),Vals xs av/\xs.length=av.length/\s.heap.get? l=some { cls:= .type "list",data:= .seq av.toArray n }:=by
 obtain⟨z,av,n,r,e⟩:=I.bx l _ hH;exact⟨z,av,n,r,r.length,e⟩
theorem yW{n:Nat}(h:n<=sizeLine):Builtin.List.listTooLong n=false:=by
 unfold Builtin.List.listTooLong;exact decide_eq_false (by omega)
end
section
variable{X:Cx}
noncomputable def EU:V->List V->Hp->VK->Prop:=λx vs H Q=> ∃ l xs y,x= .ref l/\vs=[y]/\H l=some (.lst xs)/\xs.length < sizeLine/\Q .non (upd H l (.lst (xs++[y])))
theorem xj:Qg X "list.append" EU:=by
 intro pins s σ H x vs v us Q I rx rv h;obtain⟨l,xs,y,rfl,rfl,hH,hz,q⟩:=h;cases rx;obtain⟨u,rfl,ru⟩:=rv.one;obtain⟨z,av,n,r,hl,e⟩:=I.zo hH;refine call_meets F.slot_list_append ⟨_,e,rfl⟩ F.entry_list_append (F.args_list_append_2 _ _) (PySem.list_append l av.toArray n u (by rw[List.size_toArray];omega)) ⟨e,?_⟩;refine⟨.non,_,I.Ld (its':=av++[u]) hH e (by simp) (r.append (.cons ru .nil)) ?_,rfl,q⟩;rw[List.length_append,List.length_singleton];omega
noncomputable def M9:R2:=λx y H Q=> ∃ l b xs zs,x= .ref l/\y= .ref b/\H l=some (.lst xs)/\H b=some (.lst zs)/\xs.length+zs.length<=sizeLine/\ ∀ p,H p=none->Q (.ref p) (upd H p (.lst (xs++zs)))
theorem KC:di X (binaryOp .Add) M9:=by
 intro pins s σ H x y v u Q I rx ry h;obtain⟨l,b,xs,zs,rfl,rfl,hH,hB,hz,q⟩:=h;cases rx;cases ry;obtain⟨z,av,n,r,hl,e⟩:=I.zo hH;obtain⟨z2,its2,n2,r2,hl2,e2⟩:=I.zo hB;refine PySem.P.add_list e e2 ?_ (by rw[List.size_toArray,List.size_toArray];omega);have ea:av.toArray++its2.toArray=(av++its2).toArray:=by simp
 rw[ea];exact⟨.ref _,_,I.Nm (t':=s.toks) (r.append r2) (by rw[List.length_append];omega),rfl,q _ I.fresh⟩
noncomputable def OQ:R2:=λx y H Q=> ∃ l k xs,x= .ref l/\y= .int k/\H l=some (.lst xs)/\ -(2 ^ 63)<=k/\k < 2 ^ 63/\xs.length*k.toNat<=sizeLine /\
 ∀ p,H p=none->Q (.ref p) (upd H p (.lst (List.replicate k.toNat xs).flatten))
theorem len_rep{α :Type}(xs:List α)(k:Nat):(List.replicate k xs).flatten.length=k*xs.length:=by
 induction k with
 | zero=>simp
 | succ k ih=>rw[List.replicate_succ,List.flatten_cons,List.length_append,ih,Nat.succ_mul,Nat.add_comm]
theorem G5:di X (binaryOp .Mult) OQ:=by
 intro pins s σ H x y v u Q I rx ry h;obtain⟨l,k,xs,rfl,rfl,hH,h1,h2,hz,q⟩:=h;cases rx;obtain⟨t,rfl⟩:=ry;obtain⟨z,av,n,r,hl,e⟩:=I.zo hH;have hlen:av.toArray.size*k.toNat<=sizeLine:=by rw[List.size_toArray,<- hl];exact hz
 have hcap: ¬ av.toArray.size*k.toNat > (2 ^ 63 - 1) / 8:=by
  have:(sizeLine:Nat)<=(2 ^ 63 - 1) / 8:=by decide
  omega
 have hfit: ¬ (!Builtin.List.listFitsIndex k)=true:=by
  rw[fitsIndex_both h1 h2];exact Bool.false_ne_true
 have hlong: ¬ Builtin.List.listTooLong (av.toArray.size*k.toNat)=true:=by
  rw[yW hlen];exact Bool.false_ne_true
 have hnew:List.foldl (λx1 x2=>x1++x2) #[] (List.replicate (if av.toArray.isEmpty=true then 0 else k.toNat) av.toArray)=(List.replicate k.toNat av).flatten.toArray:=by
  have f0: ∀ m:Nat,List.foldl (λx1 x2=>x1++x2) #[] (List.replicate m av.toArray)=(List.replicate m av).flatten.toArray:=λm=>by
   have:=foldl_rep av m [];rw[List.nil_append] at this;exact this
  rw[f0];cases av with
  | nil=>simp
  | cons a r'=>rw[if_neg (by simp)]
 refine wpAny_binaryOp_repeat_ref (T:= "list") (U:= "int") (by decide) ⟨_,e,rfl⟩ (λs'=>typeIs_int s' k t) noFill_list_mul F.fills_int_mul F.slot_int_rmul repeat_list F.slot_int_index.lookup
  (call_meets F.slot_int_rmul (typeIs_int s k t) F.entry_int_rmul (F.args_int_rmul_2 _ _) (int___rmul___int_list k t l av.toArray n)
   ⟨e,rfl,⟨_,e,rfl⟩,call_meets F.slot_list_mul ⟨_,e,rfl⟩ F.entry_list_mul (F.args_list_mul_2 _ _) (AutoListH.list___mul___list_int_3 l av.toArray n k t hfit hcap hlong) ⟨e,?_⟩⟩)
 rw[hnew];exact⟨.ref _,_,I.Nm (t':=s.toks) (r.rep k.toNat) (by rw[len_rep,Nat.mul_comm];exact hz),rfl,q _ I.fresh⟩
end
end L2
namespace Att
open PySem PySem.W PySem.Calls PyProof.Rows
theorem lV{P:Params}{h:Heap}: ∀(ns:List Int)(vs:List Value),WellAll P h vs (ns.map WData.int)->IntsAre vs ns:=by
 intro ns
 induction ns with
 | nil =>
  intro vs w
  rw[List.map_nil] at w
  cases w
  exact .nil
 | cons n ns ih =>
  intro vs w
  rw[List.map_cons] at w
  cases w with
  | cons a b =>
   cases a
   exact .cons _ _ (ih _ b)
theorem wU {l : OpenLaw} {n : Nat} (hn : l.most = some n) {P : Params} {h : Heap} {args : List WData} {vals : List Value}
    (hpre : l.row.toRowW.claim.pre args = true) (hwl : WellAll P h vals args) :
    ∃ a vs ns, vals = [Value.ref a] /\ args = [WData.list (ns.map WData.int)] /\ h.get? a = some { cls := .type "list", data := .seq vs.toArray } /\ IntsAre vs ns /\ ns.length <= n := by
  have hsh : WShape.hasAll [] args [.list .int] = true := (pre_splitW hpre).1;have hc : l.pre.holds [] { args := args } = true := (pre_splitW hpre).2;obtain ⟨d, r, rfl, h1, h2⟩ := hasAllW_cons hsh;obtain rfl := hasAllW_nil h2;obtain ⟨xs, rfl, h3⟩ := hasW_list h1;obtain ⟨ns, rfl⟩ := items_int h3;have hlen : ns.length <= n := by
    unfold OpenLaw.pre at hc;have h4 : (WTm.not (.lt (.lit (.int (n : Int))) (.len (.arg 0)))).holds [] { args := [.list (ns.map .int)] } = true := by
      have h4 := (holds_andW hc).1;rw [hn] at h4;exact h4
    have h5 := condW_of h4 (w_not (w_lt w_lit (w_len_list (w_arg rfl))));rw [List.length_map] at h5;refine Nat.le_of_not_lt λq => ?_;have q' : (n : Int) < ((ns.length : Nat) : Int) := by omega
    first
      | (rw [decide_eq_true q'] at h5; exact absurd h5 (by decide))
      | (simp at h5; omega)
  cases hwl with
  | cons w1 w2 =>
    cases w2
    cases w1 with
    | list ho hall => exact ⟨_, _, ns, rfl, rfl, ho, lV ns _ hall, hlen⟩
theorem xD (l:OpenLaw) (args:List WData):l.row.toRowW.claim.post args (.bool true) args=true :=
 postW_of (r:=l.row.toRowW) (X:=(true == true))
  (show WShape.has [] (.bool true) .bool=true by first | rfl | decide | simp [WShape.has,WShape.arms,WShape.armsAll])
  (show(WTm.eq .res (.lit (.bool true))).value [] { args:=args,res:=some (.bool true),after:=args }=some (.bool (true == true)) from w_eq_bool (w_res rfl) w_lit) rfl
theorem tY{l:OpenLaw}{n:Nat}{q:Program}{loose:List Str}{XP:(Str->Option Value)->Heap->Prop}{YP:World->Heap->Prop}{d:DefRec}
  (hn:l.most=some n) (hdf:d.params.defaults=[])
  (call: ∀(w:World)(s₀ s₁ :Shared)(mg mb:Str->Option Value)(fa:Addr)(o:Obj)(pm cd doc:Value)(a:Addr)(vs:List Value)(ns:List Int),
   Ground q loose [] XP w s₀ mg mb s₁.heap->YP w s₁.heap ->
   s₁.heap.get? fa=some o->o.data= .func (docDef d.name d.params d.body d.scope pm cd doc)->s₁.heap.CodeRec cd d.name->mg d.name=some (.ref fa) ->
   s₁.heap.get? a=some { cls:= .type "list",data:= .seq vs.toArray }->IntsAre vs ns->ns.length<=n->s₁.gens= #[] ->
   codeAny (model l.prog w) callerA (.call (.ref fa) ⟨[.ref a],[]⟩) (λr s'=>r= .ok (.ret (.bool true))/\OldK s₁.heap s'.heap/\s'.os=s₁.os/\AllBare s'.gens) s₁) :
  WalkO q loose XP YP l.row.toRowW d [] (λf vs=>PySem.call f vs):=by
 intro w s₀ s₁ mg mb G Y fa o pm cd doc dV kV ho hd hcd hD hmg hg args vals as hpre hlay hrd hwl hlo;obtain rfl:dV= .none:=Dflts.none hD hdf;obtain rfl:kV= .none:=Dflts.noKw hD;obtain⟨a,vs,ns,rfl,rfl,hobj,hints,hlen⟩:=wU hn hpre hwl;refine enter_call (codeAny_mono (call w s₀ s₁ mg mb fa o pm cd doc a vs ns G Y ho (fd_plain hd) hcd hmg hobj hints hlen hg) λr s' hq=>?_);obtain⟨rfl,h2,h3,h4⟩:=hq;exact⟨.inl ⟨.bool true,.bool true,[],rfl,λ_=>rfl,.bool true,xD l _,λ_=>⟨List.Pairwise.nil,λ_ hm=>(nomatch hm)⟩⟩,h2,h3,h4⟩
section
variable{prog:Program}{w:World}{A:Around}{E:Value->Shared->Prop}{s:Shared}{K:Frag}
noncomputable def ledger(h:Heap)(L d:Addr):List (Addr × Obj):=(List.range h.objs.size).filterMap λa=>if a=L\/a=d then none else(h.get? a).map λo=>(a,o)
end
end Att
namespace L2
open PySem PySem.Spec PyProof.Rows
theorem pL: ∀{vs:List Value}{ns:List Int},IntsAre vs ns->Vals (ns.map V.int) vs
 | _,_,.nil=> .nil
 | _,_,.cons n t h=> .cons ⟨t,rfl⟩ (pL h)
noncomputable def zX(H:Hp):Prop:= ∀ b,H b=none\/ ∃ o xs,H b=some (.jB o (.lst xs))
theorem BK{P:Program}{w:World}{K:PySem.W.Frag}{mg mb:Str->Option Value}{CX:xN}{k:Nat}{fa a:Addr}{fd:FuncData}{x:Str}{sp:Sp}{s₁ :Shared}{vs:List Value}{ns:List Int}
  (KX:K.In s₁.heap) (hns:s₁.heap.Ns mainGlobals mg) (hb:s₁.heap.Ns builtinsNs mb) (hbb: ∀ x:Str,x≠ "__name__" ->mb x=bootBuiltins x) (hlim:s₁.heap.NoLimit) (hg:s₁.gens= #[])
  (ha:s₁.heap.get? a=some { cls:= .type "list",data:= .seq vs.toArray }) (hi:IntsAre vs ns) (hl:ns.length<=sizeLine) (hr:dG k callerA)
  (F: ∀ base:Heap,K.In base->base.Ns mainGlobals mg->hZ P w K mg base CX k fa fd [x] sp) (hbind: ∀(s:Shared)(u:Value),BindsTo s fd ⟨[u],[]⟩ [(x,u)])
  (hsp: ∀ H:Hp,zX H->gi K H a (ns.map V.int)->sp [.ref a] H (λv _=>v= .bl true) λ_ _ _=>False)
  (hCX: ∀ H e s',CX [] H s₁ (λ_ _ _=>False) e s'->False) :
  codeAny (model P w) callerA (.call (.ref fa) ⟨[.ref a],[]⟩) (λr s'=>r= .ok (.ret (.bool true))/\OldK s₁.heap s'.heap/\s'.os=s₁.os/\AllBare s'.gens) s₁ :=by
 have rv:=pL hi;have lenV:=hi.length;have core: ∀ H:Hp,zX H->gi K H a (ns.map V.int)->ji P w H s₁.heap->(∀ b,H b≠none->b=a)->(H a≠none->K.lookup a=none) ->
   codeAny (model P w) callerA (.call (.ref fa) ⟨[.ref a],[]⟩) (λr s'=>r= .ok (.ret (.bool true))/\OldK s₁.heap s'.heap/\s'.os=s₁.os/\AllBare s'.gens) s₁ :=by
  intro H hO hS bx hA hK;have base_of: ∀{b:Addr}{o:Obj},s₁.heap.get? b=some o->H b=none->(rH s₁.heap H).get? b=some o:=λe n=>BR e n;have noA: ∀{b:Addr}{o:Obj}{es:Array DictEntry}{ep:Nat},s₁.heap.get? b=some o->o.data= .dict es ep->H b=none:=λ{b o es ep} e d=>by
   cases q:H b with
   | none=>rfl
   | some u =>
    have e':b=a:=hA b (by rw[q];simp)
    subst e'
    rw[ha] at e;cases e
    have d':Data.seq vs.toArray _=Data.dict es ep:=d
    cases d'
  have nsK: ∀{b:Addr}{m:Str->Option Value},s₁.heap.Ns b m->(rH s₁.heap H).Ns b m:=λ{b m} ⟨o,es,ep,e,d,r⟩=>⟨o,es,ep,base_of e (noA e d),d,r⟩
  have hKb:K.In (rH s₁.heap H):=λb o e=>base_of (KX b o e) (by
   cases q:H b with
   | none=>rfl
   | some u =>
    have e':b=a:=hA b (by rw[q];simp)
    subst e'
    rw[hK (by rw[q];simp)] at e;cases e)
  have hM:Mod K mg (rH s₁.heap H):=⟨hKb,nsK hns,⟨mb,nsK hb,hbb⟩,let ⟨mc,h1,h2⟩:=hlim;⟨mc,nsK h1,h2⟩⟩
  have e0:vA P w K mg (rH s₁.heap H) callerA [] s₁ H:=⟨rfl,hM,λb o e=>B3 e,Nat.le_of_eq (xf _ _),trivial,λb hb=>absurd (show b∈([]:List Addr) from hb) (by simp),bx,.of_eq hg⟩
  refine codeAny_mono ((F _ hKb (nsK hns)).run callerA [] s₁ H ⟨[.ref a],[]⟩ [.ref a] [.ref a] _ _ hr e0 (hbind s₁ (.ref a)) (.cons rfl .nil) (hsp H hO hS)) λr s' h=>?_;cases r with
  | error e=>exact(hCX H e s' h).elim
  | ok fl =>
   cases fl with
   | next=>exact False.elim h
   | brk=>exact False.elim h
   | cont=>exact False.elim h
   | ret u =>
    obtain⟨v,H',os,bare,un,hok',r',q⟩:=h
    have q':v= .bl true:=q
    subst q'
    obtain rfl:u=Value.bool true:=r'
    refine⟨rfl,OldK.of_keep λb o e=>?_,os,bare⟩
    cases q:H b with
    | none=>exact un.keep b o e q (by intro z;exact absurd (show b∈([]:List Addr) from z) (by simp)) (by simp)
    | some u =>
     rcases hO b with z | ⟨ob,xs,z⟩
     . rw[q] at z;cases z
     . have z2:=un.jG b ob _ z;obtain⟨e1,_⟩:=bx b _ z;obtain⟨e2,_⟩:=hok' b _ z2;rw[e] at e1;cases e1;exact e2
 cases hk:K.lookup a with
 | some o =>
  have e:=KX a o hk
  rw[ha] at e
  cases e
  refine core (λ_=>none) (λ_=> .inl rfl) (.inr ⟨_,vs.toArray,_,hk,rfl,rfl,rfl,by rw[List.size_toArray,lenV];exact hl,by simpa using rv⟩) (λb u z=>by have z':(none:Option HO)=some u:=z;cases z') (λb z=>absurd rfl z) λz=>absurd rfl z
 | none =>
  refine core (λb=>if b=a then some (.jB { cls:= .type "list",data:= .seq vs.toArray } (.lst (ns.map V.int))) else none) (λb=>?_) (.inl (.inr ⟨{ cls:= .type "list",data:= .seq vs.toArray },if_pos rfl⟩)) (λb u z=>?_) (λb z=>?_) λ_=>hk
  . by_cases hb:b=a
    . exact .inr ⟨_,_,if_pos hb⟩
    . exact .inl (if_neg hb)
  . by_cases hb:b=a
    . have z':=(if_pos hb).symm.trans z;cases z';subst hb;exact⟨ha,by rw[List.length_map];exact hl,vs,_,rv,ha⟩
    . have z':=(if_neg hb).symm.trans z;cases z'
  . by_cases hb:b=a
    . exact hb
    . exact absurd (if_neg hb) z
theorem Dq{l:PySem.W.OpenLaw}{n k:Nat}{q:Program}{loose:List Str}{XP:(Str->Option Value)->Heap->Prop}{YP:World->Heap->Prop}{d:DefRec}{K:Params->PySem.W.Frag}{CX:World->xN}{sp:World->Sp}{x:Str}
  (hn:l.most=some n) (hn2:n<=sizeLine) (hdf:d.params.defaults=[]) (hr:dG k callerA)
  (hY: ∀(w:World)(h:Heap),YP w h->(K w.params).In h)
  (F: ∀(w:World)(mg:Str->Option Value)(fa:Addr)(h:Heap),(K w.params).In h->h.Ns mainGlobals mg->mg d.name=some (.ref fa) ->
   ∃ fd:FuncData,(∀(s:Shared)(u:Value),BindsTo s fd ⟨[u],[]⟩ [(x,u)]) /\
    ∀ base:Heap,(K w.params).In base->base.Ns mainGlobals mg->hZ l.prog w (K w.params) mg base (CX w) k fa fd [x] (sp w))
  (hsp: ∀(w:World)(H:Hp)(a:Addr)(ns:List Int),ns.length<=n->zX H->gi (K w.params) H a (ns.map V.int)->sp w [.ref a] H (λv _=>v= .bl true) λ_ _ _=>False)
  (hCX: ∀(w:World)(H:Hp)(s:Shared)(e:Value)(s':Shared),CX w [] H s (λ_ _ _=>False) e s'->False) :
  PySem.W.WalkO q loose XP YP l.row.toRowW d [] (λf vs=>PySem.call f vs):=by
 refine Att.tY hn hdf λw s₀ s₁ mg mb fa o pm cd doc a vs ns G Y ho hd hcd hmg hobj hints hlen hg=>?_;have KX:=hY w _ Y;obtain ⟨fd,hb,hF⟩:=F w mg fa _ KX G.T.g hmg;exact BK KX G.T.g G.T.b G.T.builtins G.T.nolimit hg hobj hints (Nat.le_trans hlen hn2) hr hF hb (λH hO hS=>hsp w H a ns hlen hO hS) λH e s'=>hCX w H s₁ e s'
end L2
/- THE LAST THEOREM (shape; LID, My.* are yours):
   My.Adr: a structure of the addresses that your layer names (classes, functions); My.Txt K t: a structure (Prop) of the equations over K;
   My.txt_mk : {K} {implicit addresses ..} (e1 : nsIn K mainGlobals "law" = some (some (.ref f))) (e2 : K.lookup f = some ⟨oc, od, .func (fnOf "law" "law" params body scope dV kV doc pm an cdv ct), sl⟩) (e3 : codeIn K cdv "law" = true) .. : ∃ t, My.Txt K t
set_option maxRecDepth 100000 in
(the tactic k_is has no namespace:write k_is) -/
namespace L2
open PySem PySem.Spec PyProof.Rows
noncomputable def c6(s:Stmt):Arguments:=match s with
 | .FunctionDef _ a _ _ _ _ _ _ _ _=>a
 | _=>{ posonlyargs:=[],args:=[],vararg:=none,kwonlyargs:=[],kw_defaults:=[],kwarg:=none,defaults:=[] }
noncomputable def bz(s:Stmt):List Stmt:=match s with
 | .FunctionDef _ _ b _ _ _ _ _ _ _=>b
 | _=>[]
noncomputable def aj(s:Stmt):Scope:=match s with
 | .FunctionDef _ _ _ _ _ _ sc _ _ _=>sc
 | _=>{ kind:= .function,names:=[],isGenerator:=false,isCoroutine:=false }
abbrev rM:xN:=λ_ _ _ _ _ _=>False
abbrev E0:XK:=λ_ _ _=>False
theorem Lb{X:Cx}:Passes rM X E0:=λ_ _ _ _ _ _ _ h=>h.elim
structure yu(K:PySem.W.Frag)(x qual:Str)(st:Stmt)(f:Addr)(fd:FuncData):Prop where
 ex: ∃(oc:Value)(od:Option Addr)(kV doc pm:Value)(an:Option Addr)(cdv ct:Value)(osl:Array (Option Value)),
  fd=PySem.W.fnOf x qual (c6 st) (bz st) (aj st) .none kV doc pm an cdv ct/\K.lookup f=some ⟨oc,od,.func fd,osl⟩/\PySem.W.codeIn K cdv qual=true
 kp:PySem.W.keepIn K (.ref f)=true
section
variable{P:Program}{w:World}{K:PySem.W.Frag}{mg:Str->Option Value}{base:Heap}
theorem yu.ok{x qual:Str}{st:Stmt}{f:Addr}{fd:FuncData}{N ps:List Str}{k:Nat}{sp:Sp}(F:yu K x qual st f fd)(S:ay N ps (aj st))(len: ∀ vs H Q E,sp vs H Q E->vs.length=ps.length)
  (hbody: ∀(cdv:Value)(A:Around)(outer:List Env)(s:Shared)(H:Hp)(vs:List V)(Q:VK)(E:XK),dG k (A.deeper (envOfC qual (aj st) s.heap.objs.size f cdv))->sp vs H Q E ->
   ∃ t,uC (jv rM P w K mg base N qual (aj st) f cdv A outer s H E).oR (bz st) t/\t { nx:=λ_ H'=>Q .non H',rt:=Q } (start N vs) H):hZ P w K mg base rM (k+1) f fd ps sp:=by
 obtain⟨oc,od,kV,doc,pm,an,cdv,ct,osl,rfl,lk,hcd⟩:=F.ex;refine Nl lk hcd S len λA outer s H vs Q E hr hsp=>?_;obtain⟨t,h,q⟩:=hbody cdv A outer s H vs Q E hr hsp;exact⟨t,h.oR,q⟩
theorem yu.binds{x qual:Str}{st:Stmt}{f:Addr}{fd:FuncData}{ps:List Str}(F:yu K x qual st f fd)
  (h: ∀(kV doc pm:Value)(an:Option Addr)(cdv ct:Value)(us:List Value),us.length=ps.length->bindArgs (PySem.W.fnOf x qual (c6 st) (bz st) (aj st) .none kV doc pm an cdv ct) ⟨us,[]⟩=pure (ps.zip us)):Binds K fd ps []:=by
 obtain⟨oc,od,kV,doc,pm,an,cdv,ct,osl,rfl,lk,hcd⟩:=F.ex;exact .all (h kV doc pm an cdv ct)
theorem Jq{x qual:Str}{st:Stmt}{f:Addr}{oc:Value}{od an:Option Addr}{osl:Array (Option Value)}{kV doc pm cdv ct:Value}(l:K.lookup f=some ⟨oc,od,.func (PySem.W.fnOf x qual (c6 st) (bz st) (aj st) .none kV doc pm an cdv ct),osl⟩)
  (c:PySem.W.codeIn K cdv qual=true) (k:PySem.W.keepIn K (.ref f)=true):yu K x qual st f (PySem.W.fnOf x qual (c6 st) (bz st) (aj st) .none kV doc pm an cdv ct):=⟨⟨oc,od,kV,doc,pm,an,cdv,ct,osl,rfl,l,c⟩,k⟩
end
theorem Mv{A:Around}{k:Nat}(hr:dG k A):A.units+1 < cLine:=Nat.lt_of_le_of_lt (Nat.add_le_add_left (by decide:1<=64) _) hr.units
section
variable{X:Cx}
theorem pv(i:Nat){x:Str}{pos:Pos}(hN:X.N[i]?=some x:=by rfl)(hv:Hv X.env.scope x:=by first | exact Or.inl rfl | exact Or.inr (Or.inl rfl) | exact Or.inr (Or.inr rfl))(hd:(x == ("__debug__" :Str))=false:=by decide)
  (hcd:(x == ("__classdict__" :Str))=false:=by decide):PE X (.Name x pos) (Jd i):=zV hN hv hd hcd
end
noncomputable def i4(H H':Hp):Prop:= ∀ b o,H b=some o->H' b=some o
theorem i4.refl(H:Hp):i4 H H:=λ_ _ h=>h
theorem i4.trans{H H1 H2:Hp}(a:i4 H H1)(b:i4 H1 H2):i4 H H2:=λc o h=>b c o (a c o h)
theorem i4.free{H H':Hp}(e:i4 H H'){l:Addr}(h:H' l=Option.none):H l=Option.none:=by
 cases q:H l with
 | none=>rfl
 | some o =>
  rw[e l o q] at h
  cases h
theorem i4.seq{K:PySem.W.Frag}{H H':Hp}{a:Addr}{xs:List V}(e:i4 H H')(h:gi K H a xs):gi K H' a xs:=by
 rcases h with(h | ⟨o,h⟩) | h
 . exact .inl (.inl (e _ _ h))
 . exact .inl (.inr ⟨o,e _ _ h⟩)
 . exact .inr h
open PySem PySem.W PyProof.Rows
section
variable{κ :Type}[DecidableEq κ]
noncomputable def gz(kvs:List (κ × V))(k: κ):Option V:=(kvs.find? λkv=>decide (kv.1=k)).map (·.2)
noncomputable def putK(kvs:List (κ × V))(k: κ)(v:V):List (κ × V) :=
 if (kvs.any λkv=>decide (kv.1=k))=true then kvs.map (λkv=>if kv.1=k then(kv.1,v) else kv) else kvs++[(k,v)]
theorem mQ{p: κ × V}{r:List (κ × V)}{k: κ}(e:p.1=k):gz (p::r) k=some p.2:=by simp[gz,List.find?_cons,e]
theorem ng{p: κ × V}{r:List (κ × V)}{k: κ}(e: ¬ p.1=k):gz (p::r) k=gz r k:=by simp[gz,List.find?_cons,e]
theorem tW(k: κ): ∀ kvs:List (κ × V),(kvs.any λkv=>decide (kv.1=k))=(gz kvs k).isSome
 | []=>rfl
 | p::r=>by
  rw[List.any_cons];by_cases e:p.1=k
  . simp only[mQ e,decide_eq_true e,Bool.true_or,Option.isSome_some]
  . rw[ng e,decide_eq_false e,Bool.false_or];exact tW k r
theorem ie(kvs:List (κ × V))(k: κ)(v:V):(putK kvs k v).length<=kvs.length+1:=by
 unfold putK;split
 . rw[List.length_map];omega
 . rw[List.length_append,List.length_cons,List.length_nil];omega
theorem jX.gm{o:Option V}{u:Option Value}(r:jX o u):o.isSome=u.isSome:=by
 cases o with
 | none=>cases u with
  | none=>rfl
  | some _=>exact(show False from r).elim
 | some _=>cases u with
  | none=>exact(show False from r).elim
  | some _=>rfl
theorem jX.getD{o:Option V}{u:Option Value}{d:V}{d':Value}(r:jX o u)(rd:RelV d d'):RelV (o.getD d) (u.getD d'):=by
 cases o with
 | none=>cases u with
  | none=>exact rd
  | some _=>exact(show False from r).elim
 | some _=>cases u with
  | none=>exact(show False from r).elim
  | some _=>exact r
theorem KV.val{kvs:List (κ × V)}{vs:List (κ × Value)}(r:KV kvs vs)(k: κ):jX (gz kvs k) (valueAt vs k):=by
 unfold KV at r
 induction r with
 | nil=>exact True.intro
 | @cons p q ps qs h t ih =>
  obtain⟨h1,h2⟩:=h
  by_cases e:p.1=k
  . have e':q.1=k:=h1.symm.trans e;have b:valueAt (q::qs) k=some q.2:=by simp[valueAt,List.find?_cons,e']
    rw[mQ e,b];exact h2
  . have e': ¬ q.1=k:=λz=>e (h1.trans z);have b:valueAt (q::qs) k=valueAt qs k:=by simp[valueAt,List.find?_cons,e']
    rw[ng e,b];exact ih
theorem KV.any{kvs:List (κ × V)}{vs:List (κ × Value)}(r:KV kvs vs)(k: κ):(kvs.any λkv=>decide (kv.1=k))=vs.any λkv=>decide (kv.1=k):=by
 unfold KV at r
 induction r with
 | nil=>rfl
 | cons h t ih=>rw[List.any_cons,List.any_cons,ih,h.1]
theorem KV.GY{kvs:List (κ × V)}{vs:List (κ × Value)}(r:KV kvs vs)(k: κ){y:V}{u:Value}(ry:RelV y u) :
  KV (kvs.map λkv=>if kv.1=k then(kv.1,y) else kv) (vs.map λkv=>if kv.1=k then(kv.1,u) else kv):=by
 unfold KV at r ⊢
 induction r with
 | nil=>exact .nil
 | @cons p q ps qs h t ih =>
  rw[List.map_cons,List.map_cons]
  refine .cons ?_ ih
  obtain⟨h1,h2⟩:=h
  by_cases e:p.1=k
  . rw[if_pos e,if_pos (h1.symm.trans e)];exact⟨h1,ry⟩
  . rw[if_neg e,if_neg (λz=>e (h1.trans z))];exact⟨h1,h2⟩
theorem KV.put{kvs:List (κ × V)}{vs:List (κ × Value)}(r:KV kvs vs)(k: κ){y:V}{u:Value}(ry:RelV y u):KV (putK kvs k y) (stored vs k u):=by
 unfold putK stored;rw[r.any k];by_cases e:(vs.any λkv=>decide (kv.1=k))=true
 . rw[if_pos e,if_pos e];exact r.GY k ry
 . rw[if_neg e,if_neg e];exact Paired.snoc r ⟨rfl,ry⟩
theorem KV.keys{kvs:List (κ × V)}{vs:List (κ × Value)}(r:KV kvs vs):kvs.map (·.1)=vs.map (·.1):=by
 unfold KV at r
 induction r with
 | nil=>rfl
 | cons h t ih=>rw[List.map_cons,List.map_cons,ih,h.1]
theorem KV.length{kvs:List (κ × V)}{vs:List (κ × Value)}(r:KV kvs vs):kvs.length=vs.length:=Paired.length r
end
theorem j6{P:Program}{w:World}{k:Key}{u:Value}(r:RelV (kV k) u):(aK P w).is k u=true:=by
 cases k with
 | inl i=>obtain⟨t,e⟩:=(show ∃ t,u=Value.int i t from r);subst e;exact rS P w i t
 | inr x=>obtain⟨t,e⟩:=(show ∃ t,u=Value.str x t from r);subst e;exact r9 P w x t
theorem px{P:Program}{w:World}: ∀{ks:List Key}{us:List Value},Vals (ks.map kV) us->ItemsAre (aK P w) ks us
 | [],_,r=>by rw[List.map_nil] at r;cases r;exact .nil
 | k::ks,_,r=>by
  rw[List.map_cons] at r;cases r with
  | cons h t=>exact .cons (j6 h) (px t)
abbrev KT(H:Hp):List (List Key × V)->List (List Key × Addr × Value)->Prop:=Paired λp q=>p.1=q.1/\H q.2.1=some (.tup (p.1.map kV))/\RelV p.2 q.2.2
theorem KT.val{H:Hp}{kvs:List (List Key × V)}{xs:List (List Key × Addr × Value)}(r:KT H kvs xs)(k:List Key):jX (gz kvs k) ((atKey xs k).map (·.2)):=by
 induction r with
 | nil=>exact True.intro
 | @cons p q ps qs h t ih =>
  obtain⟨h1,_,h2⟩:=h
  by_cases e:p.1=k
  . have e':q.1=k:=h1.symm.trans e;have b:atKey (q::qs) k=some q.2:=by simp[atKey,List.find?_cons,e']
    rw[mQ e,b];exact h2
  . have e': ¬ q.1=k:=λz=>e (h1.trans z);have b:atKey (q::qs) k=atKey qs k:=by simp[atKey,List.find?_cons,e']
    rw[ng e,b];exact ih
theorem KT.GY{H:Hp}{kvs:List (List Key × V)}{xs:List (List Key × Addr × Value)}(r:KT H kvs xs)(k:List Key){y:V}{u:Value}(ry:RelV y u) :
  KT H (kvs.map λkv=>if kv.1=k then(kv.1,y) else kv) (xs.map (putAt k u)):=by
 induction r with
 | nil=>exact .nil
 | @cons p q ps qs h t ih =>
  rw[List.map_cons,List.map_cons]
  refine .cons ?_ ih
  obtain⟨h1,h2,h3⟩:=h
  unfold putAt
  by_cases e:p.1=k
  . rw[if_pos e,if_pos (h1.symm.trans e)];exact⟨h1,h2,ry⟩
  . rw[if_neg e,if_neg (λz=>e (h1.trans z))];exact⟨h1,h2,h3⟩
theorem KT.put{H:Hp}{kvs:List (List Key × V)}{xs:List (List Key × Addr × Value)}(r:KT H kvs xs)(k:List Key){b:Addr}{y:V}{u:Value}(hb:H b=some (.tup (k.map kV)))(ry:RelV y u) :
  KT H (putK kvs k y) (storedH xs k b u):=by
 have e:(kvs.any λkv=>decide (kv.1=k))=(atKey xs k).isSome:=by
  rw[tW,(r.val k).gm,Option.isSome_map]
 unfold putK storedH;rw[e];by_cases q:(atKey xs k).isSome=true
 . rw[if_pos q,if_pos q];exact r.GY k ry
 . rw[if_neg q,if_neg q];exact Paired.snoc r ⟨rfl,hb,ry⟩
theorem KT.keeps{H H':Hp}{kvs:List (List Key × V)}{xs:List (List Key × Addr × Value)}(r:KT H kvs xs)(ht: ∀ b ys,H b=some (.tup ys)->H' b=some (.tup ys)):KT H' kvs xs :=
 Paired.xM r λ_ _ z=>⟨z.1,ht _ _ z.2.1,z.2.2⟩
section
variable{P:Program}{w:World}{H:Hp}{h:Heap}{a:Addr}
theorem Ft{u:HO}(ok:ji P w H h)(e:Rd H a u):bg P w H h a u:=e.ok ok
theorem lx{kvs:List (Key × V)}(ok:ji P w H h)(e:Rd H a (.dK kvs)):kvs.length<=sizeLine/\(a == sysModules)=false/\ ∃ vs,KV kvs vs/\h.DictOf (aK P w) a vs :=
 show bg P w H h a (.dK kvs) from Ft ok e
theorem nG{kvs:List (Key × V)}(ok:ji P w H h)(e:H a=some (.dK kvs)):kvs.length<=sizeLine/\(a == sysModules)=false/\ ∃ vs,KV kvs vs/\h.DictOf (aK P w) a vs:=lx ok (.inl e)
theorem k4{ks:List Key}(ok:ji P w H h)(e:H a=some (.tup (ks.map kV))):(tupleKind (aK P w)).is h ks a:=by
 obtain⟨_,av,r,o,h1,h2,n,h3,_⟩:=(show bg P w H h a (.tup (ks.map kV)) from ok a _ e)
 exact⟨o,av.toArray,n,h1,h2,h3,by simpa using px r⟩
theorem ox{kvs:List (List Key × V)}(ok:ji P w H h)(e:Rd H a (.dT kvs)):kvs.length<=sizeLine/\(a == sysModules)=false /\
  ∃ xs,KT H kvs xs/\h.DictOfH (tupleKind (aK P w)) a xs:=by
 obtain⟨z,y,xs,r,o,es,ep,h1,h2,h3,h4,h5⟩:=(show bg P w H h a (.dT kvs) from Ft ok e)
 refine⟨z,y,xs,r,o,es,ep,h1,h2,h3,h4,λx hx=>?_,h5⟩;have all: ∀{l:List (List Key × V)}{m:List (List Key × Addr × Value)},KT H l m-> ∀ x∈m,(tupleKind (aK P w)).is h x.1 x.2.1:=by
  intro l m q
  induction q with
  | nil=>intro x hx;exact nomatch hx
  | @cons p q ps qs hq t ih =>
   intro x hx
   rcases List.mem_cons.mp hx with e | hx
   . subst e;exact k4 ok (by rw[<- hq.1];exact hq.2.1)
   . exact ih x hx
 exact all r x hx
theorem Ni{kvs:List (List Key × V)}(ok:ji P w H h)(e:H a=some (.dT kvs)):kvs.length<=sizeLine/\(a == sysModules)=false /\
  ∃ xs,KT H kvs xs/\h.DictOfH (tupleKind (aK P w)) a xs:=ox ok (.inl e)
end
noncomputable def i5(H:Hp)(a:Addr)(y:V)(r:Option V):Prop :=
 (∃ kvs k,Rd H a (.dK kvs)/\y=kV k/\r=gz kvs k)\/ ∃ kvs k b,Rd H a (.dT kvs)/\y= .ref b/\H b=some (.tup (k.map kV))/\r=gz kvs k
noncomputable def uN(H:Hp)(a:Addr)(y v:V)(H':Hp):Prop :=
 (∃ kvs k,H a=some (.dK kvs)/\y=kV k/\kvs.length < sizeLine/\H'=upd H a (.dK (putK kvs k v))) \/
 ∃ kvs k b,H a=some (.dT kvs)/\y= .ref b/\H b=some (.tup (k.map kV))/\kvs.length < sizeLine/\H'=upd H a (.dT (putK kvs k v))
theorem i5.k{H:Hp}{a:Addr}{kvs:List (Key × V)}{k:Key}(e:H a=some (.dK kvs)):i5 H a (kV k) (gz kvs k):= .inl ⟨kvs,k,.inl e,rfl,rfl⟩
theorem i5.t{H:Hp}{a b:Addr}{kvs:List (List Key × V)}{k:List Key}(e:H a=some (.dT kvs))(eb:H b=some (.tup (k.map kV))):i5 H a (.ref b) (gz kvs k):= .inr ⟨kvs,k,b,.inl e,rfl,eb,rfl⟩
theorem uN.k{H:Hp}{a:Addr}{kvs:List (Key × V)}{k:Key}{v:V}(e:H a=some (.dK kvs))(hl:kvs.length < sizeLine):uN H a (kV k) v (upd H a (.dK (putK kvs k v))):= .inl ⟨kvs,k,e,rfl,hl,rfl⟩
theorem uN.t{H:Hp}{a b:Addr}{kvs:List (List Key × V)}{k:List Key}{v:V}(e:H a=some (.dT kvs))(eb:H b=some (.tup (k.map kV)))(hl:kvs.length < sizeLine) :
  uN H a (.ref b) v (upd H a (.dT (putK kvs k v))):= .inr ⟨kvs,k,b,e,rfl,eb,hl,rfl⟩
section
variable{X:Cx}{pins:List (Addr × Obj)}{σ :St}{H:Hp}{s:Shared}{a:Addr}{y v:V}{u r:Value}{o:Option V}{A:Around}{E:Value->Shared->Prop}
theorem Inv.big(I:Inv X pins σ H s):sysModules < s.heap.objs.size:=by
 have h:mainGlobals < s.heap.objs.size:=(I.mod.glob.keeps I.bk).lt;exact Nat.lt_trans (by decide) h
theorem yd{Q:Value->Shared->Prop}(hu:A.units+1 < cLine)(I:Inv X pins σ H s)(g:i5 H a y (some v))(ry:RelV y u)(h: ∀ w' s',Inv X pins σ H s'->RelV v w'->Q w' s') :
  wpAny (model X.prog X.w) A (getItem (.ref a) u) Q E s:=by
 rcases g with⟨kvs,k,e,ey,l⟩ | ⟨kvs,k,b,e,ey,eb,l⟩
 . subst ey;obtain⟨z,hd,vs,rel,dd⟩:=lx I.bx e;obtain⟨w',hw,rw'⟩:=jX.some_of (v:=v) (o:=valueAt vs k) (by rw[l];exact rel.val k);exact wpAny_getItem_of (j6 ry) dd.mapOf hw (h w' _ (I.tok _) rw')
 . subst ey;cases(show u=Value.ref b from ry);obtain⟨z,hd,xs,rel,dd⟩:=ox I.bx e;obtain⟨w',hw,rw'⟩:=jX.some_of (v:=v) (o:=(atKey xs k).map (·.2)) (by rw[l];exact rel.val k)
   obtain⟨p,hp,hp2⟩:=Option.map_eq_some_iff.mp hw;refine wpAny_getItem_heap (tupleKind_room_in1 hu) (k4 I.bx eb) dd hp ?_;rw[hp2];exact h w' _ (I.tok _) rw'
theorem Oy{Q:Value->Shared->Prop}(hu:A.units+1 < cLine)(I:Inv X pins σ H s)(g:i5 H a y o)(ry:RelV y u)(h: ∀ s',Inv X pins σ H s'->Q (.bool o.isSome) s') :
  wpAny (model X.prog X.w) A (compareOp .In u (.ref a)) Q E s:=by
 rcases g with⟨kvs,k,e,ey,l⟩ | ⟨kvs,k,b,e,ey,eb,l⟩
 . subst ey;obtain⟨z,hd,vs,rel,dd⟩:=lx I.bx e;refine wpAny_in_of (j6 ry) hd dd.mapOf ?_;rw[<- (rel.val k).gm,<- l];exact h _ (I.tok _)
 . subst ey;cases(show u=Value.ref b from ry);obtain⟨z,hd,xs,rel,dd⟩:=ox I.bx e;refine wpAny_in_heap (tupleKind_room_in1 hu) (k4 I.bx eb) hd dd ?_;have q:=(rel.val k).gm;rw[Option.isSome_map] at q;rw[<- q,<- l];exact h _ (I.tok _)
theorem Fg{Q:Value->Shared->Prop}(hu:A.units+1 < cLine)(I:Inv X pins σ H s)(g:i5 H a y o)(ry:RelV y u)(h: ∀ s',Inv X pins σ H s'->Q (.bool (!o.isSome)) s') :
  wpAny (model X.prog X.w) A (compareOp .NotIn u (.ref a)) Q E s:=by
 rcases g with⟨kvs,k,e,ey,l⟩ | ⟨kvs,k,b,e,ey,eb,l⟩
 . subst ey;obtain⟨z,hd,vs,rel,dd⟩:=lx I.bx e;refine wpAny_notIn_of (j6 ry) hd dd.mapOf ?_;rw[<- (rel.val k).gm,<- l];exact h _ (I.tok _)
 . subst ey;cases(show u=Value.ref b from ry);obtain⟨z,hd,xs,rel,dd⟩:=ox I.bx e;refine wpAny_notIn_heap (tupleKind_room_in1 hu) (k4 I.bx eb) hd dd ?_;have q:=(rel.val k).gm;rw[Option.isSome_map] at q;rw[<- q,<- l];exact h _ (I.tok _)
theorem l7{h':Heap}{t':Nat}{ob:HO}(I:Inv X pins σ H s)(mu:Nf (H a))(hs:Heap.SameBut a s.heap h')(he: ∃ q,h'.get? a=some q)(new:bg X.prog X.w (upd H a ob) h' a ob) :
  Inv X pins σ (upd H a ob) { s with heap:=h',toks:=t' } :=
 I.write (x:=a) (e:=a) mu (.inl rfl) (λb q hb z=>(hs.2 b hb).trans z) he new
theorem oB{P:Program}{w:World}{H':Hp}{h':Heap}{kvs:List (Key × V)}{vs:List (Key × Value)}(z:kvs.length<=sizeLine)(hd:(a == sysModules)=false)(rel:KV kvs vs)(dd:h'.DictOf (aK P w) a vs) :
  bg P w H' h' a (.dK kvs):=⟨z,hd,vs,rel,dd⟩
theorem xc{H':Hp}{Q:Unit->Shared->Prop}(hu:A.units+1 < cLine)(I:Inv X pins σ H s)(g:uN H a y v H')(ry:RelV y u)(rv:RelV v r)(h: ∀ s',Inv X pins σ H' s'->Q () s') :
  wpAny (model X.prog X.w) A (setItem (.ref a) u r) Q E s:=by
 rcases g with⟨kvs,k,e,ey,l,eH⟩ | ⟨kvs,k,b,e,ey,eb,l,eH⟩
 . subst ey eH;obtain⟨z,hd,vs,rel,dd⟩:=nG I.bx e;have hz:vs.length<=sizeLine:=by rw[<- rel.length];exact z
   have hl:(putK kvs k v).length<=sizeLine:=by have:=ie kvs k v;omega
   refine wpAny_setItem_pairs (hsz:=hz) (j6 ry) dd λh' dd' hs=>h _ ?_;have he: ∃ q,h'.get? a=some q:=let ⟨q,_,_,hq,_⟩:=dd';⟨q,hq⟩
   exact l7 I (by rw[e];exact True.intro) hs he (oB hl hd (rel.put k rv) dd')
 . subst ey eH;cases(show u=Value.ref b from ry);obtain⟨z,hd,xs,rel,dd⟩:=Ni I.bx e;have hz:xs.length<=sizeLine:=by rw[<- Paired.length rel];exact z
   have hl:(putK kvs k v).length<=sizeLine:=by have:=ie kvs k v;omega
   refine wpAny_setItem_heap (hsz:=hz) (tupleKind_room_in1 hu) (k4 I.bx eb) dd λh' dd' hs=>h _ ?_;obtain⟨q,es,ep,hq,h2,h3,h4,_,h5⟩:=dd';refine l7 I (by rw[e];exact True.intro) hs ⟨q,hq⟩ ⟨hl,hd,_,(rel.put k eb rv).keeps λc ys ec=>?_,q,es,ep,hq,h2,h3,h4,h5⟩;rw[aB (pT ec e (λz=>nomatch z))];exact ec
end
section
variable{X:Cx}{pins:List (Addr × Obj)}{σ :St}{H:Hp}{s:Shared}{a:Addr}{kvs:List (Key × V)}{k:Key}{u:Value}{A:Around}{E:Value->Shared->Prop}
theorem NI{Q:Value->Shared->Prop}(I:Inv X pins σ H s)(e:Rd H a (.dK kvs))(h: ∀ t s',Inv X pins σ H s'->Q (.int kvs.length t) s'):wpAny (model X.prog X.w) A (call (.builtin "len") [.ref a]) Q E s:=by
 obtain⟨z,hd,vs,rel,dd⟩:=lx I.bx e;refine call_len_dict hd dd (by rw[<- rel.length];rw[sizeLine_eq] at z;omega) ?_;rw[<- rel.length];exact h _ _ (I.tok _)
end
noncomputable def Ee (i:Expr):Prop:= ∀ ov iv,subscripted i false ov iv=operate [ov,iv] (getItem ov iv)
theorem DW {prog : Program} {w : World} {A : Around} {E : Value -> Shared -> Prop} {s : Shared} {env : Env} {value slice : Expr} {pos : Pos} {T id : String} {Q : Value -> Shared -> Prop}
    (hl : typeLookup (.type T) "__getitem__" = pure (some (.builtin id))) (hs : Ee slice)
    (h : wpAny (model prog w) A (eval value env) (λo s₁ => wpAny (model prog w) A (eval slice env) (λi s₂ => s₂.TypeIs o T /\ wpAny (model prog w) A (getItem o i) Q E s₂) E s₁) E s) :
    wpAny (model prog w) A (eval (.Subscript value slice pos) env) Q E s := by
  refine Subscript_ (wpAny_mono h (λo s₁ h₁ => wpAny_mono h₁ (λi s₂ h₂ => ?_) λ_ _ x => x) λ_ _ x => x);obtain ⟨hT, h₂⟩ := h₂;unfold subscriptTail;refine wpAny_bind ?_;rw [getitemInPython_of_ne hT.not_modules];refine wpAny_bind (wpAny_specialOf hT hl ?_);have fin : wpAny (model prog w) A (subscripted slice false o i) (λr s₃ => wpAny (model prog w) A (letTemporaryGo value o r >>= λ_ => pure r) Q E s₃) E s₂ := by
    rw [hs o i];exact wpAny_operating (wpAny_mono h₂ (λr s₃ h₃ => wpAny_bind (wpAny_letTemporaryGo (wpAny_pure h₃))) λ_ _ x => x)
  first
    | exact wpAny_pure (wpAny_bind fin)
    | exact wpAny_bind (wpAny_pure (wpAny_bind fin))
    | exact wpAny_bind fin
theorem tP{X:Cx}{pins:List (Addr × Obj)}{σ :St}{H:Hp}{s:Shared}{a:Addr}{y:V}{o:Option V}(I:Inv X pins σ H s)(g:i5 H a y o):s.TypeIs (.ref a) "dict" :=by
 rcases g with⟨kvs,k,e,_,_⟩ | ⟨kvs,k,b,e,_,_,_⟩
 . obtain⟨_,_,vs,_,dd⟩:=lx I.bx e;exact dd.typeIs
 . obtain⟨_,_,xs,_,dd⟩:=ox I.bx e;exact dd.typeIs
theorem sY{P:Program}{w:World}{H:Hp}(h:Heap)(hb:sysModules < h.objs.size):bg P w H (h.push { cls:= .type "dict",data:= .dict #[] }) h.objs.size (.dK []) :=
 ⟨Nat.zero_le _,beq_eq_false_iff_ne.mpr (Ne.symm (Nat.ne_of_lt hb)),[],.nil,Heap.DictOf.new h⟩
noncomputable def yI:TE:=λ_ H Q=> ∀ p,H p=none->Q (.ref p) (upd H p (.dK []))
section
variable{X:Cx}{pos:Pos}
theorem Bh:PE X (.Dict [] [] pos) yI:=λpins s σ H Q I h =>
 wpAny_Dict_empty ⟨.ref s.heap.objs.size,_,I.laid (a:=s.heap.objs.size) (o:= .dK []) (t':=s.toks) (λ_ _ q=>Heap.get?_push_of_some _ q) (Nat.le_refl _) (sY s.heap I.big),rfl,h _ (I.bx.fresh (Nat.le_refl _))⟩
end
noncomputable def kG:List (TE × TE)->St->Hp->(List (V × V)->Hp->Prop)->Prop
 | [],_,H,Q=>Q [] H
 | (tk,tv)::r, σ,H,Q=>tk σ H λx H1=>tv σ H1 λy H2=>kG r σ H2 λps H3=>Q ((x,y)::ps) H3
abbrev VV:List (V × V)->List (Value × Value)->Prop:=Paired λp q=>RelV p.1 q.1∧RelV p.2 q.2
noncomputable def ML (X:Cx) (pos:Pos) (keys:List (Option Expr)) (values:List Expr) (trs:List (TE × TE)):Prop :=
 ∀ (pins:List (Addr × Obj)) (s:Shared) (σ :St) (H:Hp) (Q:List (V × V)->Hp->Prop),Inv X pins σ H s->kG trs σ H Q ->
  wpAny (model X.prog X.w) X.A (evalPairs (pairTrees keys values X.env pos)) (λvs s'=> ∃ ps H',Inv X pins σ H' s'/\VV ps vs/\Q ps H') X.xe s
theorem Ea{X:Cx}{pos:Pos}:ML X pos [] [] []:=λpins s σ H Q I h=>pairTrees_nil_walk ⟨[],H,I,.nil,h⟩
theorem Ad{X:Cx}{pos:Pos}{k v:Expr}{ks:List (Option Expr)}{vs:List Expr}{tk tv:TE}{trs:List (TE × TE)}(hk:PE X k tk)(hv:PE X v tv)(hr:ML X pos ks vs trs) :
  ML X pos (some k::ks) (v::vs) ((tk,tv)::trs):=λpins s σ H Q I h =>
 pairTrees_cons_walk (cQ (hk pins s σ H _ I h) λu s1 ⟨x,H1,I1,rx,q1⟩=>cQ (hv pins s1 σ H1 _ I1 q1) λw2 s2 ⟨y,H2,I2,ry,q2⟩ =>
  cQ (hr pins s2 σ H2 _ I2 q2) λws s3 ⟨ps,H3,I3,rel,q3⟩=>⟨(x,y)::ps,H3,I3,.cons ⟨rx,ry⟩ rel,q3⟩)
noncomputable def cK(kvs more:List (Key × V)):List (Key × V):=more.foldl (λacc kv=>putK acc kv.1 kv.2) kvs
theorem KV.merge: ∀{more:List (Key × V)}{rs:List (Key × Value)}{kvs:List (Key × V)}{vs:List (Key × Value)},KV more rs->KV kvs vs->KV (cK kvs more) (merged vs rs):=by
 intro more rs kvs vs r;unfold KV at r
 induction r generalizing kvs vs with
 | nil=>intro q;exact q
 | @cons p q ps qs h t ih =>
  intro r0
  have e:KV (putK kvs p.1 p.2) (stored vs q.1 q.2):=by
   have:=r0.put p.1 h.2;rw[<- h.1];exact this
  exact ih e
theorem dt: ∀(more kvs:List (Key × V)),(cK kvs more).length<=kvs.length+more.length
 | [],kvs=>by show kvs.length<=kvs.length+0;omega
 | p::r,kvs=>by
  have h1:=dt r (putK kvs p.1 p.2);have h2:=ie kvs p.1 p.2;show(cK (putK kvs p.1 p.2) r).length<=_;rw[List.length_cons];omega
theorem oC{P:Program}{w:World}: ∀{kvs:List (Key × V)}{ws:List (Value × Value)},VV (kvs.map λkv=>(kV kv.1,kv.2)) ws-> ∃ rs,Carries (aK P w) ws rs/\KV kvs rs
 | [],_,r=>by rw[List.map_nil] at r;cases r;exact⟨[],True.intro,.nil⟩
 | p::kvs,_,r=>by
  rw[List.map_cons] at r;cases r with
  | @cons a b as bs h t =>
   obtain⟨rs,c,q⟩:=oC (P:=P) (w:=w) t
   obtain⟨b1,b2⟩:=b
   exact⟨(p.1,b2)::rs,⟨j6 h.1,rfl,c⟩,.cons ⟨rfl,h.2⟩ q⟩
noncomputable def Fq(trs:List (TE × TE)):TE:=fun σ H Q=> ∀ p,H p=none->kG trs σ (upd H p (.dK [])) λps H2=>H2 p=some (.dK [])/\ ∃ kvs:List (Key × V),ps=kvs.map (λkv=>(kV kv.1,kv.2))/\kvs.length<=15/\Q (.ref p) (upd H2 p (.dK (cK [] kvs)))
theorem Ff{X:Cx}{pos:Pos}{keys:List (Option Expr)}{values:List Expr}{trs:List (TE × TE)}(h:ML X pos keys values trs)(hall:keys.all (·.isSome)=true)(hl:keys.length=values.length)(h0:keys≠[])
  (h15:keys.length<=15):PE X (.Dict keys values pos) (Fq trs):=by
 intro pins s σ H Q I q;have hn:=I.bx.fresh (Nat.le_refl s.heap.objs.size);have I1:=I.laid (a:=s.heap.objs.size) (o:= .dK []) (h':=s.heap.push { cls:= .type "dict",data:= .dict #[] }) (t':=s.toks) (λ_ _ q=>Heap.get?_push_of_some _ q) (Nat.le_refl _) (sY s.heap I.big);refine wpAny_Dict_walk (knd:=aK X.prog X.w) hall hl h0 h15 (cQ (h pins _ σ _ _ I1 (q _ hn)) λws s2 ⟨ps,H2,I2,rel,e,kvs,ep,lk,q2⟩=>?_);subst ep;obtain⟨rs,c,rk⟩:=oC (P:=X.prog) (w:=X.w) rel;obtain⟨z,hd,vs0,r0,dd⟩:=nG I2.bx e;cases r0;refine⟨rs,c,dd,λh' dd' hs=>⟨.ref s.heap.objs.size,_,?_,rfl,q2⟩⟩;have hz:(cK [] kvs).length<=sizeLine:=by
  have h1:=dt kvs [];rw[List.length_nil] at h1;rw[sizeLine_eq];omega
 have he: ∃ q,h'.get? s.heap.objs.size=some q:=let ⟨q,_,_,hq,_⟩:=dd';⟨q,hq⟩
 exact l7 I2 (by rw[e];exact True.intro) hs he (oB hz hd (rk.merge .nil) dd')
structure M1(X:Cx)(o:Expr)(m:Str)(apos:Pos)(e:Expr)(cpos:Pos):Prop where
 base:attributeBase o m X.env (eval o X.env)=eval o X.env
 kr:((backTo cpos (starEach [e] X.env)).all (λx=> !x.1)&&(backToKw cpos (keywordEach [] X.env)).all (λx=>x.1.isSome)
  && decide (([e]:List Expr).length+([]:List Keyword).length+(if ([]:List Keyword).isEmpty then 0 else 1) < 30))=true
 line:(apos.endLine == cpos.line)=true
 trees:backTo cpos (starEach [e] X.env)=[(false,eval e X.env)]
structure M2(X:Cx)(o:Expr)(m:Str)(apos:Pos)(e f:Expr)(cpos:Pos):Prop where
 base:attributeBase o m X.env (eval o X.env)=eval o X.env
 kr:((backTo cpos (starEach [e,f] X.env)).all (λx=> !x.1)&&(backToKw cpos (keywordEach [] X.env)).all (λx=>x.1.isSome)
  && decide (([e,f]:List Expr).length+([]:List Keyword).length+(if ([]:List Keyword).isEmpty then 0 else 1) < 30))=true
 line:(apos.endLine == cpos.line)=true
 trees:backTo cpos (starEach [e,f] X.env)=[(false,eval e X.env),(false,eval f X.env)]
noncomputable def Qf(H:Hp)(a:Addr):Prop:=(∃ kvs,Rd H a (.dK kvs))\/ ∃ kvs,Rd H a (.dT kvs)
theorem Jb{X:Cx}{pins:List (Addr × Obj)}{σ :St}{H:Hp}{s:Shared}{a:Addr}(I:Inv X pins σ H s)(d:Qf H a) :
  s.TypeIs (.ref a) "dict" /\(∀ b,Value.ref a= .ref b-> ∃ ob,s.heap.get? b=some ob/\ob.dict=none)/\(a == sysModules)=false:=by
 rcases d with⟨kvs,e⟩ | ⟨kvs,e⟩
 . obtain⟨_,hd,vs,_,dd⟩:=lx I.bx e;refine⟨dd.typeIs,λb q=>?_,hd⟩;cases q;obtain⟨ob,_,_,h1,h2,_⟩:=dd;exact⟨ob,h1,h2.2.1⟩
 . obtain⟨_,hd,xs,_,dd⟩:=ox I.bx e;refine⟨dd.typeIs,λb q=>?_,hd⟩;cases q;obtain⟨ob,_,_,h1,h2,_⟩:=dd;exact⟨ob,h1,h2.2.1⟩
section
variable{X:Cx}{pins:List (Addr × Obj)}{σ :St}{H:Hp}{s:Shared}{a:Addr}{y d:V}{u r:Value}{o:Option V}{A:Around}{E:Value->Shared->Prop}
theorem IS{Q:Value->Shared->Prop}(hu:A.units+1 < cLine)(I:Inv X pins σ H s)(g:i5 H a y o)(ry:RelV y u)(rd:RelV d r)(h: ∀ w' s',Inv X pins σ H s'->RelV (o.getD d) w'->Q w' s') :
  wpAny (model X.prog X.w) A (call (.builtin "dict.get") [.ref a,u,r]) Q E s:=by
 rcases g with⟨kvs,k,e,ey,l⟩ | ⟨kvs,k,b,e,ey,eb,l⟩
 . subst ey;obtain⟨z,hd,vs,rel,dd⟩:=lx I.bx e;refine call_meetsIn PySem.F.slot_dict_get dd.typeIs PySem.F.entry_dict_get (PySem.F.args_dict_get_3 _ _ _) (meets_dict_get_default (aK X.prog X.w) a (j6 ry) hd r) ⟨_,dd.mapOf,h _ _ (I.tok _) ?_⟩;rw[l];exact(rel.val k).getD rd
 . subst ey;cases(show u=Value.ref b from ry);obtain⟨z,hd,xs,rel,dd⟩:=ox I.bx e;refine call_meetsIn PySem.F.slot_dict_get dd.typeIs PySem.F.entry_dict_get (PySem.F.args_dict_get_3 _ _ _) (meetsH_dict_get_default (tupleKind (aK X.prog X.w)) a b hd r) ⟨tupleKind_room_in1 hu,k,xs,k4 I.bx eb,dd,h _ _ (I.tok _) ?_⟩;rw[l];exact(rel.val k).getD rd
end
noncomputable def Av(td ty tx:TE):TE:=fun σ H Q=>td σ H λx H1=> ∃ a,x= .ref a/\Qf H1 a/\ty σ H1 λy H2=>tx σ H2 λz H3=> ∃ o,i5 H3 a y o/\Q (o.getD z) H3
section
variable{X:Cx}{o e f:Expr}{apos cpos:Pos}{td ty tx:TE}
theorem zY(hu:X.A.units+1 < cLine)(ho:PE X o td)(he:PE X e ty)(hf:PE X f tx)(m:M2 X o "get" apos e f cpos):PE X (.Call (.Attribute o "get" apos) [e,f] [] cpos) (Av td ty tx):=by
 intro pins s σ H Q I h;refine wpAny_Call_method m.base m.kr m.line PySem.F.plainAttrs_dict PySem.F.slot_dict_get PySem.F.type_dict_get (cQ (ho pins s σ H _ I h) λu s1 ⟨x,H1,I1,rx,a,ex,d,q1⟩=>?_);subst ex;obtain rfl:u=Value.ref a:=rx;obtain⟨t1,t2,_⟩:=Jb I1 d;refine⟨t1,t2,?_⟩;rw[m.trees];refine Calls.callWith_builtin rfl (Calls.evalArgs_plain (Calls.spliced_cons (cQ (he pins s1 σ H1 _ I1 q1) λiv s2 ⟨y,H2,I2,ry,q2⟩ =>
  Calls.spliced_cons (cQ (hf pins s2 σ H2 _ I2 q2) λfv s3 ⟨z,H3,I3,rz,ov,g,q3⟩=>Calls.spliced_nil ?_))))
 exact IS hu I3 g ry rz λw' s4 I4 rw'=>⟨_,H3,I4,rw',q3⟩
end
section
variable{X:Cx}
theorem xB:aZ X (.builtin "len") (λxs H Q=> ∃ a kvs,xs=[V.ref a]/\H a=some (.dK kvs)/\Q (.int kvs.length) H):=by
 intro pins s σ H xs us Q I r h;obtain⟨a,kvs,rfl,ha,q⟩:=h;obtain⟨u,rfl,ru⟩:=vals1 r;cases ru;exact NI I (.inl ha) λt s' I'=>⟨.int kvs.length,H,I',⟨t,rfl⟩,q⟩
end
noncomputable def mask(n:Str):Str:=⟨n.cps.push 0⟩
noncomputable def hV(sc fn:List (Str × NameKind))(N vars:List Str):Bool :=
 sc.all (λp=>p.2 != .cell&&(p.2 != .free||(fn.lookup p.1 == some .cell||fn.lookup p.1 == some .free))&&(p.2 != .local||sc.lookup p.1 == some .local)) &&
 N.all (λn=>vars.contains n||sc.lookup n !=some .local)&&vars.all (λv=>sc.lookup (mask v) == none)
noncomputable def t8 (N vars:List Str):List Str:=N.map (λn=>if vars.contains n then mask n else n)++vars
noncomputable def fI (X:Cx) (vars:List Str) (scope:Scope) (cl:List (Str × Addr)) (C:Addr) (s₀ :Shared) (H₀ :Hp) (ex:List Addr) (pn:List (Addr × Obj)):Cx :=
 { X with N:=t8 X.N vars,env:=compEnvC scope cl C X.env,s₀ :=s₀,H₀ :=H₀,outer:=X.stack,ex:=ex,fn:=λ_=>false,pn:=pn }
theorem i8 (f : Str -> NameKind -> NameKind) (x : Str) : ∀ names : List (Str × NameKind), (names.map λp => (p.1, f p.1 p.2)).lookup x = (names.lookup x).map (f x)
  | [] => rfl
  | p :: r => by
    have ih := i8 f x r;rw [List.map_cons, List.lookup_cons, List.lookup_cons, ih];cases q : x == p.1 with
    | true => obtain rfl : x = p.1 := by simpa using q
              rfl
    | false => rfl
theorem ia {env:Env} {names:List (Str × NameKind)} {x:Str} :
  (names.map λ(n,k)=>if (k == NameKind.free&&env.scope.kind == .function&&env.kindOf n == some .cell) then (n,NameKind.cell) else (n,k)).lookup x =
   (names.lookup x).map λk=>if (k == NameKind.free&&env.scope.kind == .function&&env.kindOf x == some .cell) then NameKind.cell else k:=by
 rw[<- i8 (λn k=>if (k == NameKind.free&&env.scope.kind == .function&&env.kindOf n == some .cell) then NameKind.cell else k) x names];congr 2
 funext p
 obtain⟨n,k⟩:=p;show(if _ then _ else _)=_;split<;>rename_i z<;>simp[z]
theorem lookup_mem{β :Type}{x:Str}{c: β}: ∀{l:List (Str × β)},l.lookup x=some c->(x,c)∈l
 | [],h=>by simp at h
 | p::r,h=>by
  rw[List.lookup_cons] at h;cases q:x == p.1 with
  | true =>
   rw[q] at h
   obtain rfl:x=p.1:=by simpa using q
   obtain rfl:p.2=c:=by simpa using h
   exact List.mem_cons_self
  | false=>rw[q] at h;exact List.mem_cons_of_mem _ (lookup_mem h)
theorem fh{β :Type}{x:Str}{c: β}: ∀{l:List (Str × β)},(x,c)∈l-> ∃ d,l.lookup x=some d
 | [],h=>nomatch h
 | (n,k)::r,h=>by
  cases hx:x == n with
  | true=>exact⟨k,by simp only[List.lookup_cons,hx]⟩
  | false =>
   have h':(x,c)∈r:=by
    rcases List.mem_cons.mp h with e | e
    . cases e;simp at hx
    . exact e
   obtain⟨d,q⟩:=fh h'
   exact⟨d,by simp only[List.lookup_cons,hx];exact q⟩
theorem jC{env:Env}: ∀(names:List (Str × NameKind))(acc:List (Str × Addr)),(∀ p∈names,p.2= .free-> ∃ c,env.cells.lookup p.1=some c) ->
  ∃ cl,(forIn names acc λ(x:Str × NameKind) (r:List (Str × Addr))=>(match x with | (name,kind)=>if (kind == NameKind.free)=true then do let a <- cellOf env name;pure (ForInStep.yield ((name,a)::r)) else pure (ForInStep.yield r):Sem (ForInStep (List (Str × Addr)))))=pure cl /\
   (∀ p∈cl,p∈acc\/env.cells.lookup p.1=some p.2)/\(∀ p∈acc,p∈cl)/\ ∀ p∈names,p.2= .free-> ∃ c,(p.1,c)∈cl
 | [],acc,_=>⟨acc,rfl,λp h=> .inl h,λp h=>h,λp h=>nomatch h⟩
 | (n,k)::r,acc,h=>by
  by_cases hk:(k == NameKind.free)=true
  . obtain⟨c,hc⟩:=h (n,k) List.mem_cons_self (by simpa using hk);obtain⟨cl,e,h1,h2,h3⟩:=jC r ((n,c)::acc) λp hp=>h p (List.mem_cons_of_mem _ hp);refine⟨cl,?_,λp hp=>?_,λp hp=>h2 p (List.mem_cons_of_mem _ hp),λp hp hf=>?_⟩
    . rw[List.forIn_cons];have z:cellOf env n=pure c:=by unfold cellOf;have hc':env.cells.lookup n=some c:=hc;rw[hc']
      simp only[hk,if_true,z];exact e
    . rcases h1 p hp with q | q
      . rcases List.mem_cons.mp q with q | q
        . exact .inr (by rw[q];exact hc)
        . exact .inl q
      . exact .inr q
    . rcases List.mem_cons.mp hp with q | q
      . exact⟨c,by rw[q];exact h2 _ List.mem_cons_self⟩
      . exact h3 p q hf
  . obtain⟨cl,e,h1,h2,h3⟩:=jC r acc λp hp=>h p (List.mem_cons_of_mem _ hp);refine⟨cl,?_,h1,h2,λp hp hf=>?_⟩
    . rw[List.forIn_cons];simp only[if_neg hk];exact e
    . rcases List.mem_cons.mp hp with q | q
      . rw[q] at hf;exact absurd (by simpa using hf) hk
      . exact h3 p q hf
theorem mL{env:Env}{scope:Scope}(h: ∀ p∈scope.names,p.2= .free-> ∃ c,env.cells.lookup p.1=some c) :
  ∃ cl,closureFor scope env=pure cl/\(∀ x c,cl.lookup x=some c->env.cells.lookup x=some c)/\ ∀ x,scope.names.lookup x=some .free-> ∃ c,cl.lookup x=some c:=by
 obtain⟨cl,e,h1,_,h3⟩:=jC scope.names [] h;refine⟨cl,?_,λx c q=>?_,λx q=>?_⟩
 . unfold closureFor;show(forIn scope.names ([]:List (Str × Addr)) _ >>= λr=>pure r)=_
   erw [e]
   rfl
 . rcases h1 _ (lookup_mem q) with z | z
   . cases z
   . exact z
 . obtain⟨c,q'⟩:=h3 _ (lookup_mem q) rfl;exact fh q'
noncomputable def C6(cs:List Expr)(v:Env):Sem Bool :=
 forIn cs true λc r=>if r=true then(isTrue c v (eval c v) >>= λok=>pure (ForInStep.yield ok)) else pure (ForInStep.yield r)
noncomputable def uI(M:Model)(A:Around)(v:Env)(e:Expr)(acc:Value)(X:Value->Shared->Prop)(D:Shared->Prop):Bool->Shared->Prop:=λok u=>if ok=true then
  wpAny M A (eval e v) (λx u1=>wpAny M A (call (.builtin "list.append") [acc,x]) (λ_ u2=>D u2) X u1) X u
 else D u
noncomputable def Jf(M:Model)(A:Around)(v:Env)(tg e:Expr)(cs:List Expr)(it acc:Value)(X:Value->Shared->Prop)(D:Shared->Prop)(i:Value)(u:Shared):Prop :=
 wpAny M A (letOwnedTupleGo tg it i) (λ_ u1=>wpAny M A (assign tg v i) (λ_ u2=>wpAny M A (C6 cs v) (uI M A v e acc X D) X u2) X u1) X u
theorem nR{prog:Program}{w:World}{A:Around}{R:Result->Shared->Prop}{s:Shared}{elt target iter:Expr}{ifs:List Expr}{scope:Scope}{pos:Pos}{it acc:Value}{env:Env}(I:Nat->Shared->Prop)
  (turn: ∀ k u,I k u->wpAny (model prog w) A (pyNext it) (λr u1=>match r with
   | none=>R (.ok .next) u1
   | some i=>Jf (model prog w) A env target elt ifs it acc (notedBy (model prog w) A env λe s'=>R (.error e) s') (λu2=> ∃ m,m < k/\I m u2) i u1) (notedBy (model prog w) A env λe s'=>R (.error e) s') u)
  (n:Nat) (h:I n s):codeAny (model prog w) A (.compLoop (.ListComp elt [⟨target,iter,ifs,0⟩] scope pos) 0 it acc env) R s:=by
 refine codeAny_loop rfl I (λk u hu=>wpAny_noted (m:=compTurn (.ListComp elt [⟨target,iter,ifs,0⟩] scope pos) 0 it acc env) ?_) n h;rw[compTurn_list];refine wpAny_bind (wpAny_standAt (wpAny_bind (wpAny_mono (turn k u hu) (λr u1 g=>?_) λ_ _ z=>z)))
 match r,g with
 | none,g=>exact wpAny_pure g
 | some i,g =>
  refine wpAny_bind (wpAny_mono g (λ_ _ g=>wpAny_bind (wpAny_mono g (λ_ _ g=>wpAny_bind (wpAny_mono g (λok u4 g=>?_) λ_ _ z=>z)) λ_ _ z=>z)) λ_ _ z=>z)
  match ok,g with
  | false,g=>exact wpAny_pure (And.intro rfl g)
  | true,g=>exact wpAny_bind (wpAny_bind (wpAny_mono g (λ_ _ g=>wpAny_bind (wpAny_mono g (λ_ _ g=>wpAny_pure (wpAny_pure (And.intro rfl g))) λ_ _ z=>z)) λ_ _ z=>z))
noncomputable def PF(X:Cx)(ifs:List Expr)(t:TT):Prop :=
 ∀(pins:List (Addr × Obj))(s:Shared)(σ :St)(H:Hp)(Q:Bool->Hp->Prop),Inv X pins σ H s->t σ H Q ->
  wpAny (model X.prog X.w) X.A (forIn ifs true λc r=>if r=true then do let ok <- isTrue c X.env (eval c X.env);pure (ForInStep.yield ok) else pure (ForInStep.yield r)) (TP X pins σ Q) X.xe s
noncomputable def Fv:TT:=λ_ H Q=>Q true H
theorem Hh{X:Cx}:PF X [] Fv:=λ_ _ σ H Q I h=>wpAny_tests_nil ⟨H,I,h⟩
theorem KA{X:Cx}{c:Expr}{t:TT}(h:PT X c t):PF X [c] t:=λpins s σ H Q I q=>wpAny_tests_one (h pins s σ H Q I q)
noncomputable def N4(k:Nat)(wi:TI)(g:TG)(tt:TT)(te:TE):TE:=fun σ H Q=>wi σ H λJ H1=> ∃ W:Nat->Nat->List V->Hp->Prop,(∃ m,W 0 m [] H1)/\ ∀ i m ys H,W i m ys H ->
 (J.stop i H/\ ∀ p,H p=none->Q (.ref p) (upd H p (.lst ys))) \/
 (J.go i H/\ys.length < sizeLine/\ ∀ x H',J.K5 i H x H'->g x (σ ++List.replicate k none) H' fun σ2 H2=>tt σ2 H2 λb H3 =>
  if b=true then te σ2 H3 λy H4=> ∃ m',m' < m/\W (i+1) m' (ys++[y]) H4 else ∃ m',m' < m/\W (i+1) m' ys H3)
section
variable{X:Cx}{pins:List (Addr × Obj)}{σ :St}{H:Hp}{s:Shared}{scope:Scope}{vars:List Str}{cl:List (Str × Addr)}
theorem gI(h:hV scope.names X.env.scope.names X.N vars=true): ∀ p∈scope.names,p.2≠ .cell/\(p.2= .free->X.env.kindOf p.1=some .cell\/X.env.kindOf p.1=some .free)/\(p.2= .local->scope.names.lookup p.1=some .local):=by
 intro p hp;unfold hV at h;simp only[Bool.and_eq_true,List.all_eq_true] at h;obtain⟨⟨h1,_⟩,_⟩:=h;have q:=h1 p hp;simp only[Bool.or_eq_true,bne_iff_ne,ne_eq,beq_iff_eq] at q;obtain⟨⟨q1,q2⟩,q3⟩:=q;refine⟨q1,λe=>?_,λe=>?_⟩
 . rcases q2 with z | z
   . exact absurd e z
   . exact z
 . rcases q3 with z | z
   . exact absurd e z
   . exact z
theorem Jk(h:hV scope.names X.env.scope.names X.N vars=true): ∀ n∈X.N,¬ n∈vars->scope.names.lookup n≠some .local:=by
 intro n hn hv;unfold hV at h;simp only[Bool.and_eq_true,List.all_eq_true] at h;obtain⟨⟨_,h2⟩,_⟩:=h;have q:=h2 n hn;simp only[Bool.or_eq_true,bne_iff_ne,ne_eq,List.contains_iff_mem] at q;exact q.resolve_left hv
theorem xr(h:hV scope.names X.env.scope.names X.N vars=true): ∀ n∈vars,scope.names.lookup (mask n)=none:=by
 intro n hn;unfold hV at h;simp only[Bool.and_eq_true,List.all_eq_true] at h;simpa using h.2 n hn
theorem Inv.fI{C:Addr}{h':Heap}{t':Nat}{m':Str->Option Value}{fp:List Addr}(I:Inv X pins σ H s)(hkind:scope.kind= .function)(hlc:hV scope.names X.env.scope.names X.N vars=true)
  (hc1: ∀ x c,cl.lookup x=some c->X.env.cells.lookup x=some c) (hc2: ∀ x,scope.names.lookup x=some .free-> ∃ c,cl.lookup x=some c)
  (hfp: ∀ b∈fp,lW X pins H b) (hfo: ∀ b∈fp,∃ o,s.heap.get? b=some o) (hC:s.heap.objs.size<=C) (hn:h'.Ns C m') (k: ∀ b o,s.heap.get? b=some o->h'.get? b=some o) :
  Inv (fI X vars scope cl C s H fp (X.pn++pins)) [] (σ ++List.replicate vars.length none) H { s with heap:=h',toks:=t' }:=by
 have hHC:H C=none:=I.bx.fresh hC;have cellOf: ∀ x c,cl.lookup x=some c->c < s.heap.objs.size:=λx c e=>by
  obtain⟨v,q⟩:=I.cell x c (hc1 x c e);exact q.lt
 refine⟨?ok,rfl,I.bare,Un.kept k,⟨m',hn,?loc⟩,λx c e=>?cell,hHC,λx c e=>I.iE x c (hc1 x c e),?pin,I.bx.kept k,?len⟩
 case ok =>
  refine{ mod:=I.ok.mod,kind:=?_,glob:=I.ok.glob,blt:=I.ok.blt,above:=hC,inj:=?_,has:=?_,KY:=(λ_ _ e=>by cases e),hd:=I.ok.hd,frames:=I.ok.frames,M3:= .inl rfl,Pg:=?_,bs:=I.bs,BZ:=Nat.le_trans I.ok.BZ I.sz,xF:=?_,Ak:=?_,ky:=I.stack,FQ:=I.vN }
  . exact hkind
  . exact λx y c e1 e2=>I.ok.inj x y c (hc1 x c e1) (hc1 y c e2)
  . intro x hx;have hx':(compEnvC scope cl C X.env).kindOf x=some .cell\/(compEnvC scope cl C X.env).kindOf x=some .free:=hx;have e:(compEnvC scope cl C X.env).kindOf x=(scope.names.lookup x).map λk=>if (k == NameKind.free&&X.env.scope.kind == .function&&X.env.kindOf x == some .cell) then NameKind.cell else k:=ia
    rw[e] at hx';cases q:scope.names.lookup x with
    | none=>rw[q] at hx';simp at hx'
    | some kd =>
     have hm:=gI (X:=X) hlc _ (lookup_mem q)
     by_cases hf:kd= .free
     . subst hf;exact hc2 x q
     . rw[q] at hx';have hf':(kd == NameKind.free)=false:=by simpa using hf
       simp only[Option.map_some,hf',Bool.false_and,Bool.false_eq_true,if_false,Option.some.injEq] at hx';rcases hx' with z | z
       . exact absurd z hm.1
       . exact absurd z hf
  . intro b hb;have f:=hfp b hb;obtain⟨o,e⟩:=hfo b hb;exact⟨Nat.ne_of_lt (Nat.lt_of_lt_of_le (Heap.lt_size e) hC),λx c e=>f.2.2.2.2.1 x c (hc1 x c e)⟩
  . intro b o e hb;have f:=hfp b hb;rcases f.2.2.2.1 with z | z
    . exact I.ok.xF b o e z
    . exact absurd (Nat.lt_of_lt_of_le (Heap.lt_size (I.ok.bs b o e).1) z) (Nat.lt_irrefl _)
  . intro b hb z;have f:=hfp b hb;rcases List.mem_cons.mp (I.kU b z) with q | q
    . exact f.2.1 q
    . exact f.2.2.1 q
 case loc =>
  intro i x v e1 e2 e3
  have e1':(t8 X.N vars)[i]?=some x:=e1
  have e:(compEnvC scope cl C X.env).scope.names.lookup x=(scope.names.lookup x).map λk=>if (k == NameKind.free&&X.env.scope.kind == .function&&X.env.kindOf x == some .cell) then NameKind.cell else k:=ia
  by_cases hi:i < σ.length
  . rw[List.getElem?_append_left hi] at e2;unfold t8 at e1';rw[List.getElem?_append_left (by rw[List.length_map,<- I.len];exact hi),List.getElem?_map] at e1';cases q:X.N[i]? with
    | none=>rw[q] at e1';cases e1'
    | some n =>
     rw[q] at e1'
     have e1'':(if vars.contains n=true then mask n else n)=x:=Option.some.inj e1'
     have vis:(scope.names.lookup x).isSome=true:=by
      unfold Hv at e3;have e3':(compEnvC scope cl C X.env).scope.names.lookup x=some .local\/(compEnvC scope cl C X.env).scope.names.lookup x=some .cell\/(compEnvC scope cl C X.env).scope.names.lookup x=some .free:=e3;rw[e] at e3';cases z:scope.names.lookup x with
      | none=>rw[z] at e3';simp at e3'
      | some _=>rfl
     by_cases hv:n∈vars
     . rw[if_pos (by simpa using hv)] at e1'';have:=xr (X:=X) hlc n hv;rw[e1''] at this;rw[this] at vis;cases vis
     . rw[if_neg (by simpa using hv)] at e1'';subst e1'';have nl:=Jk (X:=X) hlc n (List.mem_of_getElem? q) hv;cases z:scope.names.lookup n with
       | none=>rw[z] at vis;cases vis
       | some kd =>
        have hm:=gI (X:=X) hlc _ (lookup_mem z)
        have hkd:kd= .free:=by
         unfold Hv at e3;have e3':(compEnvC scope cl C X.env).scope.names.lookup n=some .local\/(compEnvC scope cl C X.env).scope.names.lookup n=some .cell\/(compEnvC scope cl C X.env).scope.names.lookup n=some .free:=e3;rw[e,z] at e3';by_cases hf:kd= .free
         . exact hf
         . have hf':(kd == NameKind.free)=false:=by simpa using hf
           simp only[Option.map_some,hf',Bool.false_and,Bool.false_eq_true,if_false,Option.some.injEq] at e3';rcases e3' with y | y | y
           . rw[y] at z;exact absurd z nl
           . exact absurd y hm.1
           . exact y
        subst hkd
        have kk:=hm.2.1 rfl
        obtain⟨m,_,hl⟩:=I.loc
        obtain⟨u,r,look⟩:=hl i n v q e2 (.inr kk)
        obtain⟨c,hcl⟩:=hc2 n z
        have look': ∃ c,X.env.cells.lookup n=some c/\s.heap.IsCell c (some u):=by
         rcases look with⟨y,_⟩ | ⟨_,y⟩
         . rcases kk with w | w<;>(rw[w] at y;cases y)
         . exact y
        obtain⟨c',hc',⟨o,ho,hd⟩⟩:=look'
        have ec:c=c':=Option.some.inj ((hc1 n c hcl).symm.trans hc')
        subst ec
        refine⟨u,r,.inr ⟨?_,c,hcl,o,k c o ho,hd⟩⟩
        show(compEnvC scope cl C X.env).scope.names.lookup n=some .cell\/(compEnvC scope cl C X.env).scope.names.lookup n=some .free
        rw[e,z]
        simp only[Option.map_some]
        split
        . exact .inl rfl
        . exact .inr rfl
  . rw[List.getElem?_append_right (Nat.not_lt.mp hi),List.getElem?_replicate] at e2;split at e2<;>cases e2
 case cell =>
  obtain⟨v,o,ho,hd⟩:=I.cell x c (hc1 x c e)
  exact⟨v,o,k c o ho,hd⟩
 case pin =>
  intro p hp
  have hp':p∈X.pn++pins:=by simpa [L2.fI] using hp
  obtain⟨e,n,ne,nf,d⟩:=I.pin p hp'
  refine⟨k _ _ e,n,Nat.ne_of_lt (Nat.lt_of_lt_of_le (Heap.lt_size e) hC),λz=>?_,d⟩
  rcases List.mem_cons.mp (I.kU p.1 z) with q | q
  . exact ne q
  . exact nf q
 case len =>
  show(σ ++List.replicate vars.length none).length=(t8 X.N vars).length
  unfold t8
  rw[List.length_append,List.length_append,List.length_map,List.length_replicate,I.len]
end
noncomputable def GK(n:Nat)(g:TG):Prop:= ∀ x σ H Q,g x σ H Q->g x σ H fun σ2 H2=>Q σ2 H2/\ ∀ j,j < n-> σ2[j]?= σ[j]?
noncomputable def MH(n:Nat)(g:p6):Prop:= ∀ xs σ H Q,g xs σ H Q->g xs σ H fun σ2 H2=>Q σ2 H2/\ ∀ j,j < n-> σ2[j]?= σ[j]?
noncomputable def uM(g:TG):Prop:= ∀ x σ H Q Q',(∀ σ2 H2,Q σ2 H2->Q' σ2 H2)->g x σ H Q->g x σ H Q'
theorem EO{n i:Nat}(h:n<=i):GK n (fj i):=λx σ H Q q=>⟨q,λj hj=>List.getElem?_set_ne (by omega)⟩
theorem vc{i:Nat}:uM (fj i):=λx σ H Q Q' f q=>f _ _ q
theorem J7{n:Nat}:MH n yg:=λxs σ H Q q=>⟨q.1,q.2,λ_ _=>rfl⟩
theorem D8{n:Nat}{g:TG}{gs:p6}(h:GK n g)(hm:uM g)(hs:MH n gs):MH n (lF g gs):=λxs σ H Q q=>by
 obtain⟨v,r,e,z⟩:=q;refine⟨v,r,e,hm _ _ _ _ _ (fun σ2 H2 y=>?_) (h _ _ _ _ z)⟩;have y':=hs _ _ _ _ y.1;have:(fun σ3 H3=>(Q σ3 H3/\ ∀ j,j < n-> σ3[j]?= σ2[j]?))=fun σ3 H3=>(Q σ3 H3/\ ∀ j,j < n-> σ3[j]?= σ[j]?):=by
  funext σ3 H3
  exact propext ⟨λw=>⟨w.1,λj hj=>(w.2 j hj).trans (y.2 j hj)⟩,λw=>⟨w.1,λj hj=>(w.2 j hj).trans (y.2 j hj).symm⟩⟩
 rw[this] at y';exact y'
theorem IH{K:PySem.W.Frag}{n m:Nat}{gs:p6}(hs:MH n gs):GK n (uO K m gs):=λx σ H Q q=>by
 obtain⟨a,xs,e,h1,h2,h3⟩:=q;exact⟨a,xs,e,h1,h2,hs _ _ _ _ h3⟩
section
variable{X:Cx}{scope:Scope}{vars:List Str}{elt tg iter:Expr}{ifs:List Expr}{pos:Pos}{wi:TI}{g:TG}{tt:TT}{te:TE}
theorem mM{pins:List (Addr × Obj)}{σ :St}{H2:Hp}{s2:Shared}{cl:List (Str × Addr)}{it:Addr}{fp:List Addr}{tn:Nat->Heap->Prop}{J:It}{RR:Value->Addr->Result->Shared->Prop}{Q:VK}{E:Value->Shared->Prop}
  (hc:X.calm=true) (hx: ∀ v s,¬ X.xe v s) (hkind:scope.kind= .function) (hlc:hV scope.names X.env.scope.names X.N vars=true)
  (hb: ∀ cl C s₀ H₀ ex pn,PG (fI X vars scope cl C s₀ H₀ ex pn) tg g/\PF (fI X vars scope cl C s₀ H₀ ex pn) ifs tt/\PE (fI X vars scope cl C s₀ H₀ ex pn) elt te) (hgk:GK X.N.length g)
  (hc1: ∀ x c,cl.lookup x=some c->X.env.cells.lookup x=some c) (hc2: ∀ x,scope.names.lookup x=some .free-> ∃ c,cl.lookup x=some c)
  (I2:Inv X pins σ H2 s2) (T:Turn X.prog X.w X.K tg J fp it tn) (st2:tn 0 s2.heap) (f2: ∀ b∈fp,lW X pins H2 b)
  {W:Nat->Nat->List V->Hp->Prop} {m0:Nat} (w0:W 0 m0 [] H2)
  (turn: ∀ i m ys H,W i m ys H->(J.stop i H/\ ∀ p,H p=none->Q (.ref p) (upd H p (.lst ys))) \/
   (J.go i H/\ys.length < sizeLine/\ ∀ x H',J.K5 i H x H'->g x (σ ++List.replicate vars.length none) H' fun σ2 H2=>tt σ2 H2 λb H3 =>
    if b=true then te σ2 H3 λy H4=> ∃ m',m' < m/\W (i+1) m' (ys++[y]) H4 else ∃ m',m' < m/\W (i+1) m' ys H3))
  (hRR: ∀ D C s4 H4 ys m,Inv X pins σ (upd H4 D (.lst ys)) s4->s4.heap.Ns C m->H4 D=none->(upd H4 D (.lst ys)) C=none->C≠X.env.locals->X.s₀.heap.objs.size<=C->(∀ x c,X.env.cells.lookup x=some c->c≠C)->(∀ p∈X.pn++pins,p.1≠C) ->
   Q (.ref D) (upd H4 D (.lst ys))->RR (.ref D) C (.ok .next) s4) :
  wpAny (model X.prog X.w) X.A (newList []) (λacc s₃ =>wpAny (model X.prog X.w) X.A (newFunctionEnv scope X.env.globals cl [] X.env.qual none .none (some X.env)) (λcenv s₄ =>
   codeAny (model X.prog X.w) X.A (.compStart (.ListComp elt [⟨tg,iter,ifs,0⟩] scope pos) 0 (.ref it) acc { cenv with scope:=relabel scope X.env }) (RR acc cenv.locals) s₄) E s₃) E s2:=by
 have hcell: ∀ y∈scope.names,y.2≠ .cell:=λy hy=>(gI (X:=X) hlc y hy).1;refine wpAny_newObj_type (wpAny_newFunctionEnv hcell (λy hy=>absurd hy (by simp)) (λh₁ hns₁ hsb₁ =>?_) hkind);dsimp only at hns₁ hsb₁ ⊢;generalize hH2:s2.heap.push { cls:= .type "list",dict:=none,data:= .seq ([]:List Value).toArray }=P2 at hns₁ hsb₁ ⊢;have hC:P2.objs.size=s2.heap.objs.size+1:=by rw[<- hH2,Heap.size_push]
 have hDC:s2.heap.objs.size≠P2.objs.size:=by rw[hC];exact Nat.ne_of_lt (Nat.lt_succ_self _)
 have hCle:s2.heap.objs.size<=P2.objs.size:=by rw[hC];exact Nat.le_succ _
 have below: ∀ b,b < s2.heap.objs.size->b≠P2.objs.size/\b≠s2.heap.objs.size:=λb hb=>⟨by rw[hC];exact Nat.ne_of_lt (Nat.lt_succ_of_lt hb),Nat.ne_of_lt hb⟩
 have old: ∀ b o,s2.heap.get? b=some o->h₁.get? b=some o:=λb o e=>hsb₁.extBut b o (below b (Heap.lt_size e)).1 (Heap.get?_push_of_some _ (hH2 ▸ Heap.get?_push_of_some _ e));have hacc:h₁.get? s2.heap.objs.size=some { cls:= .type "list",data:= .seq ([]:List Value).toArray 0 }:=hsb₁.extBut _ _ hDC (Heap.get?_push_of_some _ (hH2 ▸ Heap.get?_push_size _ rfl));generalize hDe:s2.heap.objs.size=D at *;generalize hCe:P2.objs.size=C at *;have fo: ∀ b∈fp,∃ o,s2.heap.get? b=some o:=λb hb=>let ⟨o,e,_⟩:=T.obj _ _ st2 b hb;⟨o,e⟩
 have fpD: ∀ b∈fp,b < D:=λb hb=>by obtain⟨o,e⟩:=fo b hb;rw[<- hDe];exact Heap.lt_size e
 have pnlt: ∀ p∈X.pn++pins,p.1 < D:=λp hp=>by rw[<- hDe];exact Heap.lt_size (I2.pin p hp).1
 have cllt: ∀ x c,X.env.cells.lookup x=some c->c < D:=λx c e=>by obtain⟨v,q⟩:=I2.cell x c e;rw[<- hDe];exact q.lt
 have hLD:X.env.locals < D:=by rw[<- hDe];exact I2.lt
 have hD0:X.s₀.heap.objs.size<=D:=by rw[<- hDe];exact I2.sz
 have IY0:Inv (fI X vars scope cl C s2 H2 fp (X.pn++pins)) [] (σ ++List.replicate vars.length none) H2 { s2 with heap:=h₁,toks:=s2.toks+([]:List (Str × Value)).length } :=
  I2.fI hkind hlc hc1 hc2 f2 fo (by rw[hDe];exact hCle) hns₁ old
 have st1:tn 0 h₁ :=T.keep _ _ _ st2 λb _ o e=>old b o e;obtain⟨hg,hf,he⟩:=hb cl C s2 H2 fp (X.pn++pins);generalize hY:fI X vars scope cl C s2 H2 fp (X.pn++pins)=Y at *;have Yprog:Y.prog=X.prog:=by rw[<- hY];rfl
 have Yw:Y.w=X.w:=by rw[<- hY];rfl
 have YK:Y.K=X.K:=by rw[<- hY];rfl
 have YA:Y.A=X.A:=by rw[<- hY];rfl
 have Ycalm:Y.calm=true:=by rw[<- hY];exact hc
 have Yenv:Y.env=compEnvC scope cl C X.env:=by rw[<- hY];rfl
 have Yloc:Y.env.locals=C:=by rw[Yenv];rfl
 have Yex:Y.ex=fp:=by rw[<- hY];rfl
 have Yfs:Y.fs=yw X.stack:=by rw[<- hY];rfl
 have Ys0:Y.s₀ =s2:=by rw[<- hY];rfl
 have YH0:Y.H₀ =H2:=by rw[<- hY];rfl
 have Ypn:Y.pn=X.pn++pins:=by rw[<- hY];rfl
 have YN:Y.N=t8 X.N vars:=by rw[<- hY];rfl
 have Yxe: ∀ v s,¬ Y.xe v s:=by rw[<- hY];exact hx
 have noE: ∀{E':Value->Shared->Prop}{v:Value}{s:Shared},Y.xe v s->E' v s:=λh=>absurd h (Yxe _ _);have Ycell: ∀ x c,Y.env.cells.lookup x=some c->c < D:=λx c e=>by rw[Yenv] at e;exact cllt x c (hc1 x c e)
 have fpY: ∀{H':Hp}{pl:List (Addr × Obj)},(∀ b∈fp,H' b=none)->(∀ p∈pl,D<=p.1)-> ∀ b∈fp,lW Y pl H' b:=λ{H' pl} hn hp b hb=>by
  refine⟨hn b hb,?_,?_,.inl (by rw[Yex];exact hb),?_,?_⟩
  . rw[Yloc];exact Nat.ne_of_lt (Nat.lt_of_lt_of_le (fpD b hb) hCle)
  . rw[Yfs];intro z;rcases List.mem_cons.mp (I2.kU b z) with q | q
    . exact(f2 b hb).2.1 q
    . exact(f2 b hb).2.2.1 q
  . intro x c e z;rw[Yenv] at e;exact(f2 b hb).2.2.2.2.1 x c (hc1 x c e) z
  . intro p hp';rcases List.mem_append.mp hp' with q | q
    . rw[Ypn] at q;exact(f2 b hb).2.2.2.2.2 p q
    . intro z;have:=hp p q;rw[z] at this;exact absurd (Nat.lt_of_lt_of_le (fpD b hb) this) (Nat.lt_irrefl _)
 have Dfs:D ∉ Y.fs:=by
  rw[Yfs];intro z;rcases List.mem_cons.mp (I2.kU D z) with q | q
  . exact absurd hLD (by rw[q];exact Nat.lt_irrefl _)
  . exact I2.NR (by rw[hDe];exact Nat.le_refl _) q
 have loop:codeAny (model X.prog X.w) X.A (.compLoop (.ListComp elt [⟨tg,iter,ifs,0⟩] scope pos) 0 (.ref it) (.ref D) (compEnvC scope cl C X.env)) (RR (.ref D) C) { s2 with heap:=h₁,toks:=s2.toks+([]:List (Str × Value)).length }:=by
  refine nR (λn s'=> ∃ i ys H' av k,Inv Y [(D,{ cls:= .type "list",data:= .seq av k })] (σ ++List.replicate vars.length none) H' s'/\tn i s'.heap/\(∀ b∈fp,H' b=none)/\W i n ys H'/\Vals ys av.toList/\ys.length<=sizeLine) ?_ m0
   ⟨0,[],H2,_,0,IY0.iO (λp hp=>?_),st1,λb hb=>(f2 b hb).1,w0,.nil,Nat.zero_le _⟩
  . rintro n s3 ⟨i,ys,H3,av,k,I3,st3,fr3,w3,hv,hlen⟩;rcases turn i n ys H3 w3 with⟨stop,q⟩ | ⟨go,hlt,step⟩
    . have d:=T.done Y Yprog Yw YK Ycalm i _ s3 _ H3 (notedBy (model X.prog X.w) X.A (compEnvC scope cl C X.env) λe s'=>RR (.ref D) C (.error e) s') I3 (fpY fr3 (by intro p hp;rw[List.mem_singleton.mp hp];exact Nat.le_refl _)) st3 stop;rw[YA] at d;refine wpAny_mono d (λr s4 hr=>?_) λ_ _ z=>z;obtain⟨rfl,I4⟩:=hr;obtain⟨eD,nD,_,_,_⟩:=I4.pin (D,_) (List.mem_append_right _ List.mem_cons_self);dsimp only at eD nD;obtain⟨m,hnC,_⟩:=I4.loc;rw[Yloc] at hnC;have hb4:=I4.base;rw[Yfs,Yex,YH0,Ys0] at hb4;have hok4:=I4.bx;rw[Yprog,Yw] at hok4;have hCf:=I4.free;rw[Yloc] at hCf;have neD: ∀ b o,s2.heap.get? b=some o->b≠D:=λb o e=>by rw[<- hDe];exact Nat.ne_of_lt (Heap.lt_size e)
      have IX:Inv X pins σ (upd H3 D (.lst ys)) s4:=by
       refine I2.MB (ch:=fp) (I4.os.trans (by rw[Ys0])) ⟨hb4.keep,hb4.slot,λb o e n hx'=>?_,hb4.there,λb xs e=>?_,λb o u e=>?_,λb ps e=>?_⟩ (λb u e=>?_) I4.bare (λb hb'=>?_)
       . rw[aB (neD b o e)];exact hb4.free b o e n hx'
       . rw[aB (aD (hb4.j9 b xs e) nD)];exact hb4.j9 b xs e
       . rw[aB (aD (hb4.jG b o u e) nD)];exact hb4.jG b o u e
       . obtain⟨more,e'⟩:=hb4.kS b ps e;exact⟨more,by rw[aB (aD e' nD)];exact e'⟩
       . by_cases hbD:b=D
         . subst hbD;rw[bc] at e;cases e;exact⟨hlen,av.toList,k,hv,by simpa using eD⟩
         . rw[aB hbD] at e;exact(hok4 b u e).qC (λc v _ z=>z) (λc z=>by rw[aB (aD z nD)];exact z) λc xs z=>by rw[aB (aD z nD)];exact z
       . have f:=f2 b hb';exact⟨f.2.2.2.1,f.2.1,f.2.2.2.2.1,f.2.2.2.2.2⟩
      refine hRR D C s4 H3 ys m IX hnC nD (by rw[aB (Ne.symm hDC)];exact hCf) (Nat.ne_of_gt (Nat.lt_of_lt_of_le hLD hCle)) (Nat.le_trans hD0 hCle) (λx c e=>Nat.ne_of_lt (Nat.lt_of_lt_of_le (cllt x c e) hCle)) (λp hp=>Nat.ne_of_lt (Nat.lt_of_lt_of_le (pnlt p hp) hCle)) (q D nD)
    . have d:=T.item Y Yprog Yw YK Ycalm i _ s3 _ H3 (notedBy (model X.prog X.w) X.A (compEnvC scope cl C X.env) λe s'=>RR (.ref D) C (.error e) s') I3 (fpY fr3 (by intro p hp;rw[List.mem_singleton.mp hp];exact Nat.le_refl _)) st3 go;rw[YA] at d;refine wpAny_mono d (λr s4 hr=>?_) λ_ _ z=>z;obtain⟨u,rfl,h4⟩:=hr;refine wpAny_mono h4 (λ_ s5 h5=>?_) λ_ _ z=>z;obtain⟨x,H5,I5,r5,y5,st5,fr5⟩:=h5;have I5':=I5.pinned (fpY fr5 (by intro p hp;rw[List.mem_singleton.mp hp];exact Nat.le_refl _)) (T.obj _ _ st5);have a1:=hg _ s5 _ H5 x u _ I5' r5 (hgk _ _ _ _ (step x H5 y5));rw[Yprog,Yw,YA,Yenv] at a1;refine wpAny_mono a1 (λ_ s6 h6=>?_) λ_ _ z=>noE z;obtain⟨σ6,H6,I6,q6,k6⟩:=h6;have a2:=hf _ s6 σ6 H6 _ I6 q6;rw[Yprog,Yw,YA,Yenv] at a2;have back: ∀{pl:List (Addr × Obj)}{H':Hp}{s':Shared},Inv Y pl σ6 H' s'->Inv Y pl (σ ++List.replicate vars.length none) H' s':=λ{pl H' s'} I'=>by
       refine I'.weak ?_ λj v e=>?_
       . rw[I'.len,<- I3.len]
       . by_cases hj:j < σ.length
         . rw[k6 j (by rw[<- I2.len];exact hj)];exact e
         . rw[List.getElem?_append_right (Nat.not_lt.mp hj),List.getElem?_replicate] at e;split at e<;>cases e
      refine wpAny_mono a2 (λok s7 h7=>?_) λ_ _ z=>noE z;obtain⟨H7,I7,q7⟩:=h7;cases ok with
      | false =>
       rw[if_neg Bool.false_ne_true] at q7
       unfold uI
       rw[if_neg (show ¬ false=true from Bool.false_ne_true)]
       obtain⟨m',hm',w7⟩:=q7
       refine⟨m',hm',i+1,ys,H7,av,k,(back I7).iO (λp hp=>I7.pin p (List.mem_append_right _ (List.mem_append_left _ hp))),T.keep _ _ _ st5 λb hb' o e=>(I7.pin (b,o) (List.mem_append_right _ (List.mem_append_right _ (dY hb' e)))).1,λb hb'=>?_,w7,hv,hlen⟩
       obtain⟨o,e,_⟩:=T.obj _ _ st5 b hb'
       exact(I7.pin (b,o) (List.mem_append_right _ (List.mem_append_right _ (dY hb' e)))).2.1
      | true =>
       rw[if_pos rfl] at q7
       unfold uI
       rw[if_pos (show true=true from rfl)]
       have a3:=he _ s7 σ6 H7 _ I7 q7
       rw[Yprog,Yw,YA,Yenv] at a3
       refine wpAny_mono a3 (λy s8 h8=>?_) λ_ _ z=>noE z
       obtain⟨v,H8,I8,r8,m',hm',w8⟩:=h8
       obtain⟨eD,nD,neL,nfD,dD⟩:=I8.pin (D,_) (List.mem_append_right _ (List.mem_append_left _ List.mem_cons_self))
       dsimp only at eD nD neL nfD dD
       refine append_at (hsz:=by have:=hv.length;simp at this;omega) eD λh9 hs9 e9=>?_
       have st8:tn (i+1) s8.heap:=T.keep _ _ _ st5 λb hb' o e=>(I8.pin (b,o) (List.mem_append_right _ (List.mem_append_right _ (dY hb' e)))).1
       have fr8: ∀ b∈fp,H8 b=none:=λb hb'=>by
        obtain⟨o,e,_⟩:=T.obj _ _ st5 b hb';exact(I8.pin (b,o) (List.mem_append_right _ (List.mem_append_right _ (dY hb' e)))).2.1
       have I8':Inv Y [] (σ ++List.replicate vars.length none) H8 s8:=(back I8).iO λp hp=>nomatch hp
       have I9:=I8'.turned (it:=D) (h':=h9) (t':=s8.toks) (λb o hb' e=>hs9.extBut b o hb' e) nD neL (.inr (by rw[Ys0,hDe];exact Nat.le_refl _)) (λx c e=>Nat.ne_of_lt (Ycell x c e)) (λp hp=>by
        rw[List.append_nil,Ypn] at hp;exact Nat.ne_of_lt (pnlt p hp))
       refine⟨m',hm',i+1,ys++[v],H8,av.push y,k+1,I9.iO (λp hp=>?_),T.keep _ _ _ st8 λb hb' o e=>hs9.extBut b o (Nat.ne_of_lt (fpD b hb')) e,fr8,w8,?_,?_⟩
       . obtain rfl:=List.mem_singleton.mp hp;exact⟨e9,nD,neL,nfD,λv=>by simp⟩
       . rw[Array.toList_push];exact Vals.append hv (.cons r8 .nil)
       . rw[List.length_append,List.length_singleton];exact hlt
  . obtain rfl:=List.mem_singleton.mp hp;refine⟨hacc,I2.bx.fresh (by rw[hDe];exact Nat.le_refl _),?_,Dfs,λv=>by simp⟩;rw[Yloc];exact hDC
 exact codeAny_compStart_list loop (T.self _ 0 _ _ _ st1 loop)
end
section
variable{X:Cx}{scope:Scope}{vars:List Str}{elt tg iter:Expr}{ifs:List Expr}{pos spos py:Pos}{wi:TI}{g:TG}{tt:TT}{te:TE}{i:Nat}{y:Str}
theorem AS(vars:List Str)(hc:X.calm=true)(hx: ∀ v s,¬ X.xe v s)(hkind:scope.kind= .function)(hlc:hV scope.names X.env.scope.names X.N vars=true)(hi:PI X tg iter wi)
  (hb: ∀ cl C s₀ H₀ ex pn,PG (fI X vars scope cl C s₀ H₀ ex pn) tg g/\PF (fI X vars scope cl C s₀ H₀ ex pn) ifs tt/\PE (fI X vars scope cl C s₀ H₀ ex pn) elt te) (hgk:GK X.N.length g)
  (hs: ∀ x,foldedSetIterable iter X.env x=pure x:=by intro _;rfl):PE X (.ListComp elt [⟨tg,iter,ifs,0⟩] scope pos) (N4 vars.length wi g tt te):=by
 intro pins s σ H Q I h;obtain⟨cl,hcl,hc1,hc2⟩:=mL (env:=X.env) (scope:=scope) λp hp hf=>I.ok.has p.1 ((gI (X:=X) hlc p hp).2.1 hf);rw[eval_ListComp];refine wpAny_comprehension_free (use:=none) rfl hs hcl hkind (λp hp=>(gI (X:=X) hlc p hp).2.2) ?_;refine wpAny_mono (hi pins s σ H _ I h) (λv s1 h1=>wpAny_mono h1 (λitv s2 h2=>?_) λ_ _ z=>z) λ_ _ z=>z;obtain⟨it,fp,tn,J,H2,rfl,I2,T,st2,f2,W,⟨m0,w0⟩,turn⟩:=h2;refine mM (Q:=Q) (RR:=λacc C=>compPost (model X.prog X.w) X.A X.xe none (EP X pins σ Q) acc C) hc hx hkind hlc hb hgk hc1 hc2 I2 T st2 f2 w0 turn ?_;intro D C s4 H4 ys m I4 hn nD nC neL hsz hcell hpin q;refine⟨m,hn,λh' hs'=>⟨.ref D,_,I4.turned (it:=C) (t':=s4.toks) (λb o hb e=>hs'.extBut b o hb e) nC neL (.inr hsz) hcell hpin,rfl,q⟩⟩
noncomputable def Am(k i:Nat)(wi:TI)(g:TG)(tt:TT)(te:TE):TS:=λD σ H=>N4 k wi g tt te σ H λv H1=>D.nx (σ.set i (some v)) H1
theorem Ao(vars:List Str)(i:Nat)(hc:X.calm=true)(hx: ∀ v s,¬ X.xe v s)(hkind:scope.kind= .function)(hlc:hV scope.names X.env.scope.names X.N vars=true)(hN:X.N.Nodup)(hiy:X.N[i]?=some y)(hy:Loc X.env.scope y)
  (hi:PI X tg iter wi)
  (hb: ∀ cl C s₀ H₀ ex pn,PG (fI X vars scope cl C s₀ H₀ ex pn) tg g/\PF (fI X vars scope cl C s₀ H₀ ex pn) ifs tt/\PE (fI X vars scope cl C s₀ H₀ ex pn) elt te) (hgk:GK X.N.length g)
  (hsw:swapsWith (.ListComp elt [⟨tg,iter,ifs,0⟩] scope pos) (some (.Name y py)) spos.line X.env=pure true:=by rfl)
  (hs: ∀ x,foldedSetIterable iter X.env x=pure x:=by intro _;rfl)
  (hf:X.fn y=true\/X.env.scope.names.lookup y=some .local:=by first | exact .inl rfl | exact .inr rfl | assumption) :
  PS X (.Assign [.Name y py] (.ListComp elt [⟨tg,iter,ifs,0⟩] scope pos) spos) (Am vars.length i wi g tt te):=by
 intro pins s σ H Dn I h;obtain⟨cl,hcl,hc1,hc2⟩:=mL (env:=X.env) (scope:=scope) λp hp hf=>I.ok.has p.1 ((gI (X:=X) hlc p hp).2.1 hf);rw[exec_Assign_Name_used _ _ _ _ hsw];refine wpAny_bind (wpAny_standAt (wpAny_bind ?_));show wpAny _ X.A (do let _ <- comprehension (.ListComp elt [⟨tg,iter,ifs,0⟩] scope pos) scope X.env _ (newList []) false (eval iter X.env) (some (assign (.Name y py) X.env))) _ _ s;refine wpAny_bind (wpAny_mono (wpAny_comprehension_free (use:=some (assign (.Name y py) X.env)) (Q:=λ_ s'=>SP X pins Dn .next s') rfl hs hcl hkind (λp hp=>(gI (X:=X) hlc p hp).2.2) ?_) (λ_ s' hq=>wpAny_pure (wpAny_pure hq)) λ_ _ e=>e);refine wpAny_mono (hi pins s σ H _ I h) (λv s1 h1=>wpAny_mono h1 (λitv s2 h2=>?_) λ_ _ z=>z) λ_ _ z=>z;obtain⟨it,fp,tn,J,H2,rfl,I2,T,st2,f2,W,⟨m0,w0⟩,turn⟩:=h2;refine mM (Q:=λv H1=>Dn.nx (σ.set i (some v)) H1) (RR:=λacc C=>compPost (model X.prog X.w) X.A X.xe (some (assign (.Name y py) X.env)) (λ_ s'=>SP X pins Dn .next s') acc C) hc hx hkind hlc hb hgk hc1 hc2 I2 T st2 f2 w0 turn ?_;intro D C s4 H4 ys m I4 hn nD nC neL hsz hcell hpin q;show wpAny _ X.A (assign (.Name y py) X.env (.ref D)) _ _ s4;refine wpAny_assign_Name (pN I4 hN hiy hy (v:= .ref D) rfl (λs5 I5 ⟨a,hsb,ha⟩=>?_) hf);have hCa:C≠a:=by
  rcases ha with z | z
  . rw[z];exact neL
  . exact Ne.symm (hcell _ _ z)
 refine⟨m,hn.sameBut hsb hCa,λh' hs'=>?_⟩;exact⟨_,_,I5.turned (it:=C) (t':=s5.toks) (λb o hb e=>hs'.extBut b o hb e) nC neL (.inr hsz) hcell hpin,q⟩
end
theorem rV{X:Cx}:aZ X (.builtin "isinstance") (λxs H Q=> ∃ x T t b,xs=[x,.ty T]/\i6 X.K H x t/\PySem.W.kitOne X.K t (.type T)=some b/\Q (.bl b) H):=by
 intro pins s σ H xs us Q I r h;obtain⟨x,T,t,b,rfl,ty,k,q⟩:=h;obtain⟨u,c,rfl,ru,rc⟩:=vals2 r;cases(show c=Value.type T from rc);exact xt I ru ty k λtk=>⟨.bl b,H,I.tok tk,rfl,q⟩
theorem bg.get{P:Program}{w:World}{H:Hp}{h:Heap}{a:Addr}{o:HO}(x:bg P w H h a o): ∃ ob,h.get? a=some ob:=by
 induction o with
 | lst xs=>obtain⟨_,av,n,_,e⟩:=x;exact⟨_,e⟩
 | tup xs=>obtain⟨_,av,_,ob,e,_⟩:=x;exact⟨_,e⟩
 | dK kvs=>obtain⟨_,_,vs,_,ob,es,ep,e,_⟩:=x;exact⟨_,e⟩
 | dT kvs=>obtain⟨_,_,xs,_,ob,es,ep,e,_⟩:=x;exact⟨_,e⟩
 | set S n=>obtain⟨ob,es,ep,t,e,_⟩:=x;exact⟨_,e⟩
 | ins C dx fs=>obtain⟨_,_,_,e,_⟩:=x;exact⟨_,e⟩
 | own y=>exact x
 | xd fs=>obtain⟨mA,⟨od,es,ep,e,_⟩,_⟩:=x;exact⟨_,e⟩
 | Ba lo hi=>obtain⟨t,u,v,e⟩:=x;exact⟨_,e⟩
 | jB ob u ih=>obtain⟨e,_⟩:=x;exact⟨_,e⟩
 | tbl ps=>exact⟨_,x⟩
 | met f y=>exact⟨_,x⟩
 | ext φ =>obtain⟨_,e,_⟩:=x;exact e
theorem Inv.kI{X:Cx}{pins:List (Addr × Obj)}{σ :St}{H:Hp}{s:Shared}{h':Heap}{a:Addr}{o:HO}{t':Nat}(I:Inv X pins σ H s)(k: ∀ b u,s.heap.get? b=some u->h'.get? b=some u)(hp:s.heap.get? a=none)(new:bg X.prog X.w (upd H a o) h' a o) :
  H a=none/\Inv X pins σ (upd H a o) { s with heap:=h',toks:=t' }:=by
 have hn:H a=none:=by
  cases q:H a with
  | none=>rfl
  | some u =>
   obtain⟨ob,e⟩:=(I.bx a u q).get
   rw[hp] at e;cases e
 have ne: ∀ b u,s.heap.get? b=some u->b≠a:=λb u e z=>by rw[z,hp] at e;cases e
 refine⟨hn,I.un ⟨λb u q _ _ _=>k b u q,λb u q _ _ _=>⟨u.slots,k b u q⟩,λb u q n _=>?_,λb u q _=>⟨u,k b u q⟩,λb xs q=>?_,λb u xs q=>?_,λb ps q=>?_⟩ λb u e=>?_⟩
 . rw[aB (ne b u q)];exact n
 . rw[aB (aD q hn)];exact q
 . rw[aB (aD q hn)];exact q
 . exact⟨#[],by rw[aB (aD q hn),q];simp⟩
 . by_cases hb:b=a
   . subst hb;rw[bc] at e;cases e;exact new
   . rw[aB hb] at e;exact(I.bx b u e).qC (λc v _ q=>k c v q) (λc q=>by rw[aB (aD q hn)];exact q) λc xs q=>by rw[aB (aD q hn)];exact q
theorem kJ{h h':Heap}(k: ∀ b o,h.get? b=some o->h'.get? b=some o):h.get? h'.objs.size=none:=by
 cases q:h.get? h'.objs.size with
 | none=>rfl
 | some o=>exact absurd (Heap.lt_size (k _ _ q)) (Nat.lt_irrefl _)
section
variable{prog:Program}{w:World}{A:Around}{E:Value->Shared->Prop}{s:Shared}
theorem j0{a:Addr}{vs:List Value}{ss:List Str}{n:Nat}{Q:Value->Shared->Prop}(ho:s.heap.get? a=some (seqObj "list" vs.toArray n))(hS:StrsAre vs ss)(h64:vs.length < 64)
  (h: ∀(out:Array Value)(ss':List Str),StrsAre out.toList ss'->ss'.Perm ss->sortedS ss'=true->Q .none { s with heap:=sortedHeap s.heap a vs out }) :
  wpAny (model prog w) A (call (.builtin "list.sort") [.ref a]) Q E s:=by
 refine wpAny_call_entry PyProof.Rows.slot_list_sort ⟨_,ho,rfl⟩ PyProof.Rows.entry_list_sort (list_sort_treeK strKind_oneLt ho hS.keysOf (λv₁ v₂ rest e=>keyKind_strs (by rw[<- e];exact hS)) h64 λst' hp hs=>⟨_,rfl,?_⟩) (PyProof.Rows.args_list_sort _);have z:=sorted_out_str hS hp hs;exact h _ z.choose z.choose_spec.1 z.choose_spec.2.1 z.choose_spec.2.2
theorem uz{T:String}{r d:Addr}{n:Nat}{P:Nat->Value->Prop}{OK:Heap->Prop}{Q:Value->Shared->Prop}(K:PySem.W.KdlSrc prog w T r d n P OK)(hh:A.handled=none)(bx:OK s.heap)(hn:n<=sizeLine)
  (h: ∀(D:Addr)(h':Heap)(tk:Nat)(vs:List Value),(∀ b o,s.heap.get? b=some o->h'.get? b=some o)->h'.get? D=some (seqObj "list" vs.toArray 0)->s.heap.get? D=none->vs.length=n->(∀(j:Nat)(v:Value),vs[j]?=some v->P j v) ->
   wpAny (model prog w) A.in1 (call (.builtin "list.sort") [.ref D]) (λ_ z=>Q (.ref D) z) E { s with heap:=h',toks:=tk }):wpAny (model prog w) A (call (.builtin "sorted") [.ref r]) Q E s:=by
 refine Calls.call_function_entry kind_sorted plain_sorted entry_sorted (args_sorted1 (.ref r)) ?_;unfold Builtin.«sorted»;refine wpAny_bind (m:=checkCount "sorted" 1 1 [Value.ref r].length) (wpAny_pure (wpAny_bind (PySem.W.kdu_collect (A:=A.in1) K hh bx hn λh' tk acc hk hacc=>?_)));have many:acc.toList.length=n:=Array.length_toList.trans hacc.1;refine wpAny_bind (wpAny_newList (wpAny_bind (wpAny_holding (wpAny_mono (h h'.objs.size (h'.push { cls:= .type "list",data:= .seq acc.toList.toArray }) tk acc.toList (λb o e=>Heap.get?_push_of_some _ (hk b o e)) (Heap.get?_push_size _ rfl) (kJ hk) many
  λj v e=>hacc.2 j v (Array.getElem?_toList ▸ e)) (λ_ z q=>wpAny_pure (Exists.intro _ (And.intro rfl q))) λ_ _ e=>e))) (many ▸ hn))
end
theorem jy{ss:List Str}: ∀{us:List Value},Vals (ss.map V.str) us->StrsAre us ss:=by
 induction ss with
 | nil=>intro us h;cases h;exact .nil
 | cons x r ih =>
  intro us h
  cases h with
  | cons hx ht =>
   obtain⟨t,rfl⟩:=hx
   exact .cons x t (ih ht)
theorem iW: ∀{us:List Value}{ss:List Str},StrsAre us ss->Vals (ss.map V.str) us
 | _,_,.nil=> .nil
 | _,_,.cons x t h=> .cons ⟨t,rfl⟩ (iW h)
theorem vP{P:Nat->Value->Prop}: ∀{ss:List Str}{vs:List Value},vs.length=ss.length->(∀(j:Nat)(v:Value)(x:Str),vs[j]?=some v->ss[j]?=some x-> ∃ t,v=Value.str x t)->StrsAre vs ss
 | [],[],_,_=> .nil
 | x::r,v::vs,hl,h=>by
  obtain⟨t,rfl⟩:=h 0 v x rfl rfl;exact .cons x t (vP (P:=P) (by simpa using hl) λj v y e1 e2=>h (j+1) v y (by simpa using e1) (by simpa using e2))
section
variable{X:Cx}
theorem kR:aZ X (.builtin "sorted") (λxs H Q=> ∃ p ss,xs=[.ref p]/\gi X.K H p (ss.map V.str)/\ss.length < 64/\ ∀ l ss',H l=none->ss'.Perm ss->sortedS ss'=true->Q (.ref l) (upd H l (.lst (ss'.map V.str)))):=by
 intro pins s σ H xs us Q I r h;obtain⟨p,ss,rfl,hS,h64,q⟩:=h;obtain⟨u,rfl,ru⟩:=vals1 r;cases(show u=Value.ref p from ru);obtain⟨av,hv,hl,hz⟩:=I.list hS;have sa:=jy hv;refine sorted_strs hl.isList sa (by rw[sa.length];exact h64) λout ss' a1 a2 a3=>?_;obtain⟨e,he⟩:=sortedAll_at s.heap av out;have hlen:(ss'.map V.str).length<=sizeLine:=by rw[List.length_map,a2.length_eq];exact Nat.le_of_lt (Nat.lt_of_lt_of_le h64 (by decide))
 obtain⟨hn,I'⟩:=I.kI (a:=s.heap.objs.size+1) (o:= .lst (ss'.map V.str)) (t':=s.toks) (λb o e=>sortedAll_old e) (Heap.get?_none_of_le (Nat.le_succ _)) ⟨hlen,out.toList,e,iW a1,by simpa [seqObj] using he⟩;exact⟨.ref _,_,I',rfl,q _ ss' hn a2 a3⟩
theorem kY(hc:X.calm=true):aZ X (.builtin "sorted") (λxs H Q=> ∃ d kvs ss,xs=[.ref d]/\H d=some (.dK kvs)/\kvs.map (·.1)=ss.map Sum.inr/\ss.length < 64/\ ∀ l ss',H l=none->ss'.Perm ss->sortedS ss'=true->Q (.ref l) (upd H l (.lst (ss'.map V.str)))):=by
 intro pins s σ H xs us Q I r h;obtain⟨d,kvs,ss,rfl,hd,hk,h64,q⟩:=h;obtain⟨u,rfl,ru⟩:=vals1 r;cases(show u=Value.ref d from ru);obtain⟨z,lo,vs,rel,dd⟩:=nG I.bx hd;obtain⟨ep,da⟩:=dd.dictAt;have hlen:vs.length=ss.length:=by
  have e1:=rel.length;have e2:(kvs.map (·.1)).length=(ss.map (Sum.inr (α :=Int))).length:=by rw[hk]
  rw[List.length_map,List.length_map] at e2;omega
 refine uz (PySem.W.kdl_dict (knd:=aK X.prog X.w) (kvs:=vs) (ep:=ep) lo) (I.ok.hd hc) da (by rw[hlen];exact Nat.le_of_lt (Nat.lt_of_lt_of_le h64 (by decide))) λD h' tk ws keep hD hDn hl hP=>?_;have sa:StrsAre ws ss:=by
  refine vP (P:=λ_ _=>True) (by rw[hl,hlen]) λj v x e1 e2=>?_;obtain⟨k,y,e3,hk'⟩:=hP j v e1;have e4:(kvs.map (·.1))[j]?=some k:=by
   have e5:=rel.keys;rw[e5,List.getElem?_map,e3];rfl
  rw[hk,List.getElem?_map,e2] at e4;have e6:(Sum.inr x:Key)=k:=Option.some.inj e4;subst e6;rcases bM (show nh (Sum.inr x) v=true from hk') with⟨i,t,z,_⟩ | ⟨x',t,z,e⟩
  . cases z
  . cases z;exact⟨t,e⟩
 refine j0 (n:=0) hD sa (by rw[hl,hlen];exact h64) λout ss' a1 a2 a3=>?_;obtain⟨e,he⟩:=sortedHeap_at (out:=out) hD;have hle:(ss'.map V.str).length<=sizeLine:=by rw[List.length_map,a2.length_eq];exact Nat.le_of_lt (Nat.lt_of_lt_of_le h64 (by decide))
 have keep': ∀ b o,s.heap.get? b=some o->(sortedHeap h' D ws out).get? b=some o:=λb o e=>by
  rw[sortedHeap_old (λz=>by rw[z,hDn] at e;cases e) (Heap.lt_size (keep b o e))];exact keep b o e
 obtain⟨hn,I'⟩:=I.kI (a:=D) (o:= .lst (ss'.map V.str)) (t':=tk) keep' hDn ⟨hle,out.toList,e,iW a1,by simpa [seqObj] using he⟩;exact⟨.ref _,_,I',rfl,q _ ss' hn a2 a3⟩
end
section
variable{prog:Program}{w:World}{A:Around}{E:Value->Shared->Prop}{s:Shared}
theorem oK:typeLookup (.type "tuple") "keys" =pure none:=am_miss_of_fast (by decide +kernel)
set_option maxHeartbeats 4500000 in
set_option maxRecDepth 9000 in
theorem oS{a:Addr}{o:Obj}{xs:Array Value}{k:Nat}{Q:Option Value->Shared->Prop}
  (hx:s.heap.get? a=some o) (hc:o.cls= .type "tuple") (hdat:o.data= .seq xs k) (hd:o.dict=none) (hA:A.handled=none)
  (h: ∀ h' tk,(∀ b o,s.heap.get? b=some o->h'.get? b=some o)->Q none { s with heap:=h',toks:=tk }):wpAny (model prog w) A (getAttr? (.ref a) "keys") Q E s:=by
 obtain⟨c,dct,dat,sl⟩:=o;simp only at hc hdat hd;subst hc hdat hd;obtain⟨h0,gs,dr,t0,o0⟩:=s;have hT: ∀ k,(Shared.mk h0 gs dr k o0).TypeIs (.ref a) "tuple" :=λ_=>Exists.intro _ (And.intro hx rfl);have f1:=sub_AttributeError;have f3:=F.slot_tuple_getattribute.lookup;have f4:=F.slot_tuple_getattribute.bind (.ref a);have f5:=am_tuple_getattr_none;unfold getAttr?;unfold getAttrBy?;unfold getAttrBy
 repeat (any_goals (first | assumption | exact hT _ | ((with_reducible show wpAny _ _ (call (Value.builtin "tuple.__getattribute__") _ _) _ _ _);refine call_meets F.slot_tuple_getattribute (hT _) am_entry_tuple_getattribute (F.args_tuple_getattribute_2 _ _) (meets_getattribute_miss_tuple a xs k sl "keys" _ oK (by decide +kernel)) ⟨hx,hA,λh' tk' e hx'=>?_⟩) | wp_step))
 obtain⟨_,_,he⟩:=hx'.there
 with_reducible_and_instances unfold getattributeRaised
 repeat (any_goals (first | exact he | assumption | wp_step))
 exact h _ _ λb o e=>hx'.keeps b o e
end
section
variable{prog:Program}{w:World}{A:Around}{E:Value->Shared->Prop}{s:Shared}
theorem fS:entryFor table "dict.update.loop" =some Builtin.«dict.update.loop» :=entryFor_of_tree (by kernel_rfl)
theorem cM:plainId "dict.update.loop" =true:=by decide +kernel
theorem Od{c:Prop}[Decidable c]{m m':Sem α}{M:Model}{Q: α ->Shared->Prop}(hc:c)(h:wpAny M A m Q E s):wpAny M A (if c then m else m') Q E s:=by rw[if_pos hc];exact h
noncomputable def lj(prog:Program)(w:World)(h:Heap)(v:Value)(kv:Key × Value):Prop:= ∃ b o kx n,v= .ref b/\h.get? b=some o/\o.cls= .type "tuple" /\o.data= .seq #[kx,kv.2] n/\(aK prog w).is kv.1 kx=true
theorem lj.keeps{h h':Heap}{v:Value}{kv:Key × Value}(x:lj prog w h v kv)(k: ∀ b o,h.get? b=some o->o.cls= .type "tuple" ->h'.get? b=some o):lj prog w h' v kv :=
 let ⟨b,o,kx,n,e,g,c,d,r⟩:=x;⟨b,o,kx,n,e,k b o g c,c,d,r⟩
theorem tj{R:Result->Shared->Prop}{it tp d:Addr}{items:Array Value}{kvs:List (Key × Value)}{res:Value}(hh:A.handled=none)(hne:tp≠it)(hdi:d≠it)(hdt:d≠tp)(hl:kvs.length=items.size)(hz:items.size < sizeLine) :
  ∀(k i:Nat)(ii:Int)(s:Shared)(acc:List (Key × Value)),items.size - i=k->i<=items.size->acc.length<=i->s.heap.IsTupleIter it tp i->s.heap.IsTuple tp items->s.heap.DictOf (aK prog w) d acc->(∃ od,s.heap.get? d=some od/\od.cls= .type "dict")->(∃ oi,s.heap.get? it=some oi/\oi.cls= .type "tuple_iterator") ->
   (∀(j:Nat)(v:Value)(kv:Key × Value),items[j]?=some v->kvs[j]?=some kv->lj prog w s.heap v kv) ->
   (∀ s' ,s'.heap.DictOf (aK prog w) d (merged acc (kvs.drop i))->(∃ h' tk,s'={ s with heap:=h',toks:=tk })->(∀ b o,b≠d->b≠it->s.heap.get? b=some o->s'.heap.get? b=some o)->R (.ok (.ret res)) s') ->
   codeAny (model prog w) A (.builtin "dict.update.loop" ⟨[.ref d,.ref it,.int ii 0,res],[]⟩) R s:=by
 have W:=Walks.tuple (prog:=prog) (w:=w) (A:=A.in1) hh it tp hne items;intro k
 induction k with
 | zero =>
  intro i ii s acc hk hi hac hit htp hd hdc hic hP hR
  obtain rfl:i=items.size:=Nat.le_antisymm hi (by omega)
  refine codeAny_builtin fS ?_
  rw[Around.under_plainId cM _]
  show wpAny _ A.in1 (pyNext (.ref it) >>= _) _ _ s
  refine wpAny_bind (W.done s _ _ ⟨hit,htp⟩ λh' tk keep=>?_)
  refine wpAny_bind (m:=Builtin.Dict.addKeywords d []) (wpAny_pure ?_)
  refine wpAny_pure (hR _ ?_ ⟨h',tk,rfl⟩ λb o _ hb e=>keep b o (by simpa using hb) e)
  rw[List.drop_eq_nil_of_le (by omega)]
  exact hd.at λo e=>keep d o (by simpa using hdi) e
 | succ k ih =>
  intro i ii s acc hk hi hac hit htp hd hdc hic hP hR
  have hlt:i < items.size:=Nat.lt_of_le_of_ne hi (by omega)
  refine codeAny_builtin fS ?_
  rw[Around.under_plainId cM _]
  show wpAny _ A.in1 (pyNext (.ref it) >>= _) _ _ s
  refine wpAny_bind (W.item i s _ _ hlt ⟨hit,htp⟩ λv h' tk hv hst keep=>?_)
  have hkv:i < kvs.length:=by omega
  obtain⟨b,o,kx,n,rfl,hb,hc,hdat,his⟩:=hP i v kvs[i] hv (by simp[hkv])
  have hbi:b≠it:=λz=>by
   obtain⟨oi,e1,e2⟩:=hic;rw[z,e1] at hb;cases hb;rw[e2] at hc;exact absurd hc (by decide)
  have hb':h'.get? b=some o:=keep b o (by simpa using hbi) hb
  have hT:(({ s with heap:=h',toks:=tk }:Shared)).TypeIs (.ref b) "tuple" :=⟨o,hb',hc⟩
  have hd':h'.DictOf (aK prog w) d acc:=hd.at λo e=>keep d o (by simpa using hdi) e
  dsimp only
  refine wpAny_bind (wpAny_holding (wpAny_bind (wpAny_tryCatch ?_)))
  unfold Builtin.Dict.pairItems
  refine wpAny_bind (wpAny_typeOf hT (Od (by decide) (wpAny_bind (wpAny_seqItems hb' hdat (wpAny_pure ?_)))))
  show wpAny _ _ (holding [kx,kvs[i].2] (dictSet d kx kvs[i].2)) _ _ _
  refine wpAny_holding (wpAny_dictSet_pairs (hsz:=by omega) his hd' λh'' dd hs=>?_)
  obtain⟨od,hod,hodc⟩:=hdc
  have hbd:b≠d:=λz=>by rw[z,hod] at hb;cases hb;rw[hodc] at hc;exact absurd hc (by decide)
  have keep2: ∀ b o,b≠d->b≠it->s.heap.get? b=some o->h''.get? b=some o:=λb o h1 h2 e=>(hs.2 b h1).trans (keep b o (by simpa using h2) e)
  refine wpAny_pure ⟨plainId_quiet cM _,?_⟩
  refine ih (i+1) (ii+1) _ (stored acc kvs[i].1 kvs[i].2) (by omega) hlt (Nat.le_trans (stored_length_le _ _ _) (by omega)) (hst.1.at λo e=>(hs.2 it (Ne.symm hdi)).trans e) (htp.at λo e=>keep2 tp o (Ne.symm hdt) hne e) dd ?_ ?_ ?_ ?_
  . obtain⟨q,es,ep,e1,e2,_⟩:=dd;exact⟨q,e1,e2.1⟩
  . obtain⟨oi,e1,e2,_⟩:=hst.1;exact⟨oi,(hs.2 it (Ne.symm hdi)).trans e1,e2⟩
  . intro j v kv e1 e2;refine(hP j v kv e1 e2).keeps λb' o' e3 e4=>keep2 b' o' (λz=>?_) (λz=>?_) e3
    . rw[z,hod] at e3;cases e3;rw[hodc] at e4;exact absurd e4 (by decide)
    . obtain⟨oi,f1,f2⟩:=hic;rw[z,f1] at e3;cases e3;rw[f2] at e4;exact absurd e4 (by decide)
  . rintro s' dd' ⟨h3,tk3,rfl⟩ keep3;refine hR _ ?_ ⟨h3,tk3,rfl⟩ λb o h1 h2 e=>keep3 b o h1 h2 (keep2 b o h1 h2 e);have e:kvs.drop i=kvs[i]::kvs.drop (i+1):=List.drop_eq_getElem_cons hkv;rw[e];exact dd'
theorem oV{p:Addr}{o:Obj}{items:Array Value}{n:Nat}{kvs:List (Key × Value)}{Q:Value->Shared->Prop}(hh:A.handled=none)(hb:sysModules < s.heap.objs.size)(hp:s.heap.get? p=some o)(hc:o.cls= .type "tuple")(hdt:o.data= .seq items n)(hdn:o.dict=none)
  (hl:kvs.length=items.size) (hz:items.size < sizeLine) (hP: ∀(j:Nat)(v:Value)(kv:Key × Value),items[j]?=some v->kvs[j]?=some kv->lj prog w s.heap v kv)
  (h: ∀ h' tk,h'.DictOf (aK prog w) s.heap.objs.size (merged [] kvs)->(∀ b o,s.heap.get? b=some o->h'.get? b=some o)->Q (.ref s.heap.objs.size) { s with heap:=h',toks:=tk }) :
  wpAny (model prog w) A (call (.type "dict") [.ref p]) Q E s:=by
 refine callType_codes (Q₁ :=λz u=>z= .ref s.heap.objs.size/\u={ s with heap:=s.heap.push { cls:= .type "dict",data:= .dict #[] } }) F.kt_called_dict (F.kt_typeCall_dict_1 _) F.entry_dict_init (kt_code_dict_new _ ⟨rfl,rfl⟩) ?_;rintro obj s₁ ⟨rfl,rfl⟩;have up: ∀ b o,s.heap.get? b=some o->(s.heap.push { cls:= .type "dict",data:= .dict #[] }).get? b=some o:=λb o e=>Heap.get?_push_of_some _ e;have hnew:(s.heap.push { cls:= .type "dict",data:= .dict #[] }).DictOf (aK prog w) s.heap.objs.size []:=Heap.DictOf.new s.heap;have hp1:=up _ _ hp;refine⟨hnew.typeIs,F.args_dict_init_2 (.ref s.heap.objs.size) (.ref p),?_⟩
 with_unfolding_all refine wpAny_bind (m:=Builtin.Dict.selfAndRest _ _) (wpAny_bind (wpAny_notOrdered_dict hnew.typeIs (wpAny_pure ?_)))
 show wpAny _ _ (Builtin.Dict.updateFrom "dict.__init__" s.heap.objs.size (.ref p) [] .none) _ _ _;unfold Builtin.Dict.updateFrom;refine wpAny_bind (wpAny_typeOf (T:= "tuple") ⟨o,hp1,hc⟩ ?_);rw[if_pos (by decide)];refine wpAny_bind (oS hp1 hc hdt hdn hh λh1 tk1 k1=>?_);simp only[Option.isNone_none,if_true];refine wpAny_bind (wpAny_rule ?_);have htp1:h1.IsTuple p items:=⟨o,k1 _ _ hp1,hc,n,hdt⟩
 refine wpAny_bind (wpAny_pyIter_tuple htp1 ?_);have up2: ∀ b o,h1.get? b=some o->(h1.push { cls:= .type "tuple_iterator",data:= .fields #[.ref p,.int 0 0] }).get? b=some o:=λb o e=>Heap.get?_push_of_some _ e;have hd1:h1.get? s.heap.objs.size=some { cls:= .type "dict",data:= .dict #[] }:=k1 _ _ (Heap.get?_push_size _ rfl);have hpl:p < h1.objs.size:=Heap.lt_size (k1 _ _ hp1);have hdl:s.heap.objs.size < h1.objs.size:=Heap.lt_size hd1;have hps:p < s.heap.objs.size:=Heap.lt_size hp;refine wpAny_pure ⟨plainId_quiet cM _,?_⟩;refine tj (A:=A.in1) (it:=h1.objs.size) (tp:=p) (kvs:=kvs) hh (Nat.ne_of_lt hpl) (Nat.ne_of_lt hdl) (Nat.ne_of_gt hps) hl hz items.size 0 0 _ [] rfl (Nat.zero_le _) (Nat.le_refl _) ⟨_,Heap.get?_push_size _ rfl,rfl,rfl⟩ (htp1.push _) ?_ ⟨_,up2 _ _ hd1,rfl⟩ ⟨_,Heap.get?_push_size _ rfl,rfl⟩ ?_ ?_
 . exact(hnew.at λo e=>up2 _ o (k1 _ o e))
 . exact λj v kv e1 e2=>(hP j v kv e1 e2).keeps λb o e _=>up2 b o (k1 b o (up b o e))
 . rintro s' dd ⟨h3,tk3,rfl⟩ keep3;refine⟨rfl,h h3 tk3 (by simpa using dd) λb o e=>keep3 b o (Nat.ne_of_lt (Heap.lt_size e)) (Nat.ne_of_lt (Heap.lt_size (k1 _ _ (up _ _ e)))) (up2 _ _ (k1 _ _ (up _ _ e)))⟩
end
section
variable{X:Cx}
noncomputable def pD(H:Hp)(y:V)(kv:Key × V):Prop:= ∃ b,y= .ref b/\H b=some (.tup [kV kv.1,kv.2])
theorem pj{P:Program}{w:World}{H:Hp}{h:Heap}(ok:ji P w H h): ∀{ys:List V}{kvs:List (Key × V)}{av:List Value},Paired (pD H) ys kvs->Vals ys av-> ∃ vs:List (Key × Value),KV kvs vs/\vs.length=av.length /\
  ∀(j:Nat)(v:Value)(kv:Key × Value),av[j]?=some v->vs[j]?=some kv->lj P w h v kv
 | _,_,_,.nil,.nil=>⟨[],.nil,rfl,λj v kv e=>by simp at e⟩
 | _,_,_,.cons (b:=kv0) hp hr,.cons hv hrv=>by
  obtain⟨vs,h1,h2,h3⟩:=pj ok hr hrv;obtain⟨b,rfl,hb⟩:=hp;obtain⟨_,its0,r0,o,e1,e2,n,e3,_⟩:=(show bg P w H h b (.tup [kV kv0.1,kv0.2]) from ok b _ hb)
  obtain⟨u1,u2,rfl,r1,r2⟩:=vals2 r0;cases(show _=Value.ref b from hv);refine⟨(kv0.1,u2)::vs,.cons ⟨rfl,r2⟩ h1,by simp[h2],λj v kv f1 f2=>?_⟩;cases j with
  | zero =>
   simp only[List.getElem?_cons_zero,Option.some.injEq] at f1 f2
   subst f1 f2
   exact⟨b,o,u1,n,rfl,e1,e2,e3,j6 r1⟩
  | succ j=>exact h3 j v kv (by simpa using f1) (by simpa using f2)
theorem KV.sX{kvs:List (Key × V)}{vs:List (Key × Value)}(r:KV kvs vs):KV (cK [] kvs) (merged [] vs):=KV.merge r .nil
theorem lT(hc:X.calm=true):aZ X (.type "dict") (λxs H Q=> ∃ p ys kvs,xs=[.ref p]/\H p=some (.tup ys)/\Paired (pD H) ys kvs/\ys.length < sizeLine/\ ∀ d,H d=none->Q (.ref d) (upd H d (.dK (cK [] kvs)))):=by
 intro pins s σ H xs us Q I r h;obtain⟨p,ys,kvs,rfl,hp,hP,hz,q⟩:=h;obtain⟨u,rfl,ru⟩:=vals1 r;cases(show u=Value.ref p from ru);obtain⟨_,av,r0,o,e1,e2,n,e3,e4⟩:=(show bg X.prog X.w H s.heap p (.tup ys) from I.bx p _ hp)
 obtain⟨vs,h1,h2,h3⟩:=pj I.bx hP r0;have hlen:=r0.length;have hk:=Paired.length hP;refine oV (kvs:=vs) (I.ok.hd hc) I.big e1 e2 e3 e4 (by simpa using h2) (by simp;omega) (λj v kv f1 f2=>h3 j v kv (by simpa using f1) f2) λh' tk dd keep=>?_;have hle:(cK [] kvs).length<=sizeLine:=by have:=dt kvs [];simp at this;omega
 obtain⟨hn,I'⟩:=I.kI (a:=s.heap.objs.size) (o:= .dK (cK [] kvs)) (t':=tk) keep (Heap.get?_none_of_le (Nat.le_refl _)) (oB hle (beq_eq_false_iff_ne.mpr (Ne.symm (Nat.ne_of_lt I.big))) (KV.sX h1) dd);exact⟨.ref _,_,I',rfl,q _ hn⟩
end
noncomputable def iq(P:Program)(w:World)(K:PySem.W.Frag)(mg:Str->Option Value)(base:Heap)(x:Str)(k:Nat)(ps:List Str)(sp:Sp):Prop :=
 ∃(f:Addr)(fd:FuncData),hZ P w K mg base rM k f fd ps sp/\mg x=some (.ref f)/\PySem.W.keepIn K (.ref f)=true/\Binds K fd ps []/\ ∀ us:List Value,us.length=ps.length->bindArgs fd ⟨us,[]⟩=pure (ps.zip us)
theorem yu.args{K:PySem.W.Frag}{x qual:Str}{st:Stmt}{f:Addr}{fd:FuncData}{ps:List Str}(F:yu K x qual st f fd)
  (h: ∀(kV doc pm:Value)(an:Option Addr)(cdv ct:Value)(us:List Value),us.length=ps.length->bindArgs (PySem.W.fnOf x qual (c6 st) (bz st) (aj st) .none kV doc pm an cdv ct) ⟨us,[]⟩=pure (ps.zip us)): ∀ us:List Value,us.length=ps.length->bindArgs fd ⟨us,[]⟩=pure (ps.zip us):=by
 obtain⟨oc,od,kV,doc,pm,an,cdv,ct,osl,rfl,lk,hcd⟩:=F.ex;exact h kV doc pm an cdv ct
noncomputable def At(K:PySem.W.Frag)(mg:Str->Option Value)(x:Str)(st:Stmt):Prop:= ∃(f:Addr)(fd:FuncData),yu K x x st f fd/\mg x=some (.ref f)
section
variable{P:Program}{w:World}{K:PySem.W.Frag}{mg:Str->Option Value}{base:Heap}
theorem iq.mono{x:Str}{j k:Nat}{ps:List Str}{sp:Sp}(d:iq P w K mg base x j ps sp)(h:j<=k):iq P w K mg base x k ps sp:=let ⟨f,fd,F,r⟩:=d;⟨f,fd,F.mono h,r⟩
theorem At.ok{x:Str}{st:Stmt}{N ps:List Str}{k:Nat}{sp:Sp}(a:At K mg x st)(S:ay N ps (aj st))
  (hb: ∀(kV doc pm:Value)(an:Option Addr)(cdv ct:Value)(us:List Value),us.length=ps.length->bindArgs (PySem.W.fnOf x x (c6 st) (bz st) (aj st) .none kV doc pm an cdv ct) ⟨us,[]⟩=pure (ps.zip us))
  (len: ∀ vs H Q E,sp vs H Q E->vs.length=ps.length)
  (hbody: ∀(f:Addr)(cdv:Value)(A:Around)(outer:List Env)(s:Shared)(H:Hp)(vs:List V)(Q:VK)(E:XK),dG k (A.deeper (envOfC x (aj st) s.heap.objs.size f cdv))->sp vs H Q E ->
   ∃ t,uC (jv rM P w K mg base N x (aj st) f cdv A outer s H E).oR (bz st) t/\t { nx:=λ_ H'=>Q .non H',rt:=Q } (start N vs) H):iq P w K mg base x (k+1) ps sp:=by
 obtain⟨f,fd,F,hm⟩:=a;exact⟨f,fd,F.ok S len λcdv A outer s H vs Q E=>hbody f cdv A outer s H vs Q E,hm,F.kp,F.binds hb,F.args hb⟩
theorem At.yf{x:Str}{st:Stmt}{ps:List Str}{sp:Sp}(a:At K mg x st)(hb: ∀(kV doc pm:Value)(an:Option Addr)(cdv ct:Value)(us:List Value),us.length=ps.length->bindArgs (PySem.W.fnOf x x (c6 st) (bz st) (aj st) .none kV doc pm an cdv ct) ⟨us,[]⟩=pure (ps.zip us))
  (no: ∀ vs H Q E,¬ sp vs H Q E):iq P w K mg base x 0 ps sp:=by
 obtain⟨f,fd,F,hm⟩:=a;exact⟨f,fd,⟨λvs H Q E h=>absurd h (no vs H Q E),λA outer s H args us vs Q E _ _ _ _ h=>absurd h (no vs H Q E)⟩,hm,F.kp,F.binds hb,F.args hb⟩
end
section
variable{X:Cx}{x:Str}{k j:Nat}{ps:List Str}{sp:Sp}{e:Expr}{es:List Expr}{t:TA}{p pos:Pos}
theorem OV(D:iq X.prog X.w X.K X.mg X.base x j ps sp)(hr:dG k X.A)(hg:Gl X x)(hj:j<=k)(ha:PA X (e::es) t)(hdb:(x == ("__debug__" :Str))=false:=by decide)
  (he:starEach (e::es) X.env=(false,eval e X.env)::starEach es X.env:=by rfl) (hpl:(backTo pos (starEach es X.env)).any (·.1)=false:=by rfl):PE X (.Call (.Name x p) (e::es) [] pos) (vJ sp [] E0 t):=by
 obtain⟨f,fd,F,hm,kp,bd,_⟩:=D;exact C8 F (hr.mono hj) hg hm kp bd .nil Lb ha hdb he hpl
end
theorem bo{K:PySem.W.Frag}{mg:Str->Option Value}{h:Heap}{x:Str}{st:Stmt}{f:Addr}{oc:Value}{od an:Option Addr}{osl:Array (Option Value)}{kV doc pm cdv ct:Value}(X:K.In h)(G:h.Ns mainGlobals mg)
  (a:PySem.W.nsIn K mainGlobals x=some (some (.ref f))) (l:K.lookup f=some ⟨oc,od,.func (PySem.W.fnOf x x (c6 st) (bz st) (aj st) .none kV doc pm an cdv ct),osl⟩) (c:PySem.W.codeIn K cdv x=true) (k:PySem.W.keepIn K (.ref f)=true):At K mg x st :=
 ⟨f,_,Jq l c k,PySem.W.mg_of X G a⟩
structure Bl(mg:Str->Option Value):Prop where
 len:mg "len" =none
 range:mg "range" =none
 isinstance:mg "isinstance" =none
 int:mg "int" =none
 bool:mg "bool" =none
 tuple:mg "tuple" =none
 dict:mg "dict" =none
 sorted:mg "sorted" =none
 min:mg "min" =none
 max:mg "max" =none
 abs:mg "abs" =none
noncomputable def Kp(a:Addr)(H H':Hp):Prop:= ∀ b o,b≠a->H b=some o->H' b=some o
theorem Kp.refl(a:Addr)(H:Hp):Kp a H H:=λ_ _ _ h=>h
theorem Kp.trans{a:Addr}{H H1 H2:Hp}(x:Kp a H H1)(y:Kp a H1 H2):Kp a H H2:=λb o n h=>y b o n (x b o n h)
theorem i4.kp{a:Addr}{H H':Hp}(x:i4 H H'):Kp a H H':=λb o _ h=>x b o h
theorem Kp.st{a:Addr}{H:Hp}{o:HO}:Kp a H (upd H a o):=λb u n q=>by rw[aB n];exact q
theorem Kp.lst{a b:Addr}{H H':Hp}{K:PySem.W.Frag}{xs:List V}{kvs:List (Key × V)}(x:Kp a H H')(ha:H a=some (.dK kvs))(h:gi K H b xs):gi K H' b xs:=by
 rcases h with(h | ⟨o,h⟩) | h
 . exact .inl (.inl (x _ _ (pT h ha (by intro z;cases z)) h))
 . exact .inl (.inr ⟨o,x _ _ (pT h ha (by intro z;cases z)) h⟩)
 . exact .inr h
theorem Kp.tup{a b:Addr}{H H':Hp}{xs:List V}{kvs:List (Key × V)}(x:Kp a H H')(ha:H a=some (.dK kvs))(h:H b=some (.tup xs)):H' b=some (.tup xs):=x _ _ (pT h ha (by intro z;cases z)) h
class FW (t:TE):Prop where
 m: ∀ σ H Q Q',(∀ x H1,Q x H1->Q' x H1)->t σ H Q->t σ H Q'
class FZ (t:TT):Prop where
 m: ∀ σ H Q Q',(∀ x H1,Q x H1->Q' x H1)->t σ H Q->t σ H Q'
class PJ (t:TA):Prop where
 m: ∀ σ H Q Q',(∀ x H1,Q x H1->Q' x H1)->t σ H Q->t σ H Q'
class Qa (t:TO):Prop where
 m: ∀ σ H Q Q',(∀ x H1,Q x H1->Q' x H1)->t σ H Q->t σ H Q'
class P5 (t:TI):Prop where
 m: ∀ σ H Q Q',(∀ x H1,Q x H1->Q' x H1)->t σ H Q->t σ H Q'
class Pw (r:R2):Prop where
 m: ∀ x y H Q Q',(∀ x H1,Q x H1->Q' x H1)->r x y H Q->r x y H Q'
class P9 (r:V->Hp->VK->Prop):Prop where
 m: ∀ x H Q Q',(∀ x H1,Q x H1->Q' x H1)->r x H Q->r x H Q'
class Qb (r:List V->Hp->VK->Prop):Prop where
 m: ∀ x H Q Q',(∀ x H1,Q x H1->Q' x H1)->r x H Q->r x H Q'
class PN (r:V->List V->Hp->VK->Prop):Prop where
 m: ∀ x xs H Q Q',(∀ x H1,Q x H1->Q' x H1)->r x xs H Q->r x xs H Q'
class PM (r:V->Option Int->Option Int->Hp->VK->Prop):Prop where
 m: ∀ x l u H Q Q',(∀ x H1,Q x H1->Q' x H1)->r x l u H Q->r x l u H Q'
class Ox (sp:Sp):Prop where
 m: ∀ vs H Q Q' E,(∀ x H1,Q x H1->Q' x H1)->sp vs H Q E->sp vs H Q' E
section
variable{X:Cx}
noncomputable def Lj(K:PySem.W.Frag):List V->Hp->VK->Prop:=λxs H Q=> ∃ p ys,xs=[.ref p]/\(gi K H p ys\/fe K H p ys)/\Q (.int ys.length) H
noncomputable def Na:List V->Hp->VK->Prop:=λxs H Q=> ∃ z,xs=[.str z]/\z.length<=sizeLine/\Q (.int z.length) H
theorem C4:aZ X (.builtin "len") (λxs H Q=>Lj X.K xs H Q\/Na xs H Q):=rA.or qG
noncomputable def NN(K:PySem.W.Frag):List V->Hp->VK->Prop:=λxs H Q=> ∃ x T t b,xs=[x,.ty T]/\i6 K H x t/\PySem.W.kitOne K t (.type T)=some b/\Q (.bl b) H
theorem Ez:aZ X (.builtin "isinstance") (NN X.K):=rV
noncomputable def An(K:PySem.W.Frag):List V->Hp->VK->Prop:=λxs H Q=> ∃ p ss,xs=[.ref p]/\gi K H p (ss.map V.str)/\ss.length < 64/\ ∀ l ss',H l=none->ss'.Perm ss->sortedS ss'=true->Q (.ref l) (upd H l (.lst (ss'.map V.str)))
noncomputable def BH:List V->Hp->VK->Prop:=λxs H Q=> ∃ d kvs ss,xs=[.ref d]/\H d=some (.dK kvs)/\kvs.map (·.1)=ss.map Sum.inr/\ss.length < 64/\ ∀ l ss',H l=none->ss'.Perm ss->sortedS ss'=true->Q (.ref l) (upd H l (.lst (ss'.map V.str)))
noncomputable def KI:List V->Hp->VK->Prop:=λxs H Q=> ∃ p ys kvs,xs=[.ref p]/\H p=some (.tup ys)/\Paired (pD H) ys kvs/\ys.length < sizeLine/\ ∀ d,H d=none->Q (.ref d) (upd H d (.dK (cK [] kvs)))
theorem yP(hc:X.calm=true):aZ X (.type "dict") KI:=lT hc
noncomputable def Ml:List V->Hp->VK->Prop:=λxs H Q=>(∃ i,xs=[.int i]/\Q (.int i) H)\/ ∃ k,xs=[.bl k]/\Q (.int (if k then 1 else 0)) H
noncomputable def HV(K:PySem.W.Frag):List V->Hp->VK->Prop:=λxs H Q=> ∃ p ys,xs=[.ref p]/\((gi K H p ys/\ ∀ l,H l=none->Q (.ref l) (upd H l (.tup ys)))\/(fe K H p ys/\Q (.ref p) H))
theorem Cd:aZ X (.type "int") Ml:=yk
theorem CB:aZ X (.type "tuple") (HV X.K):=oM
end
structure KO(D D':Ends):Prop where
 nx: ∀ σ H,D.nx σ H->D'.nx σ H
 rt: ∀ v H,D.rt v H->D'.rt v H
 bk: ∀ σ H,D.bk σ H->D'.bk σ H
 ct: ∀ σ H,D.ct σ H->D'.ct σ H
class PK (t:TS):Prop where
 m: ∀ D D' σ H,KO D D'->t D σ H->t D' σ H
class FJ (g:TG):Prop where
 m: ∀ x σ H Q Q',(∀ σ2 H2,Q σ2 H2->Q' σ2 H2)->g x σ H Q->g x σ H Q'
class Pr (g:p6):Prop where
 m: ∀ x σ H Q Q',(∀ σ2 H2,Q σ2 H2->Q' σ2 H2)->g x σ H Q->g x σ H Q'
noncomputable def stK(a:Addr)(k:Int)(l:Option Int):List (Key × V):=match l with
 | none=>[(.inr "script",.ref a),(.inr "k",.int k)]
 | some l=>[(.inr "script",.ref a),(.inr "k",.int k),(.inr "left",.int l)]
noncomputable def wx(K:PySem.W.Frag)(H:Hp)(a:Addr)(xs:List V):Prop:=(∃ o,H a=some (.jB o (.lst xs))) \/
 ∃(o:Obj)(av:Array Value)(n:Nat),K.lookup a=some o/\o.cls= .type "list" /\o.dict=none/\o.data= .seq av n/\av.size<=sizeLine/\Vals xs av.toList
theorem wx.sq{K:PySem.W.Frag}{H:Hp}{a:Addr}{xs:List V}(h:wx K H a xs):gi K H a xs:=by
 rcases h with⟨o,h⟩ | h
 . exact .inl (.inr ⟨o,h⟩)
 . exact .inr h
theorem wx.upd{K:PySem.W.Frag}{H:Hp}{a c:Addr}{xs:List V}{u o':HO}(h:wx K H a xs)(hc:H c=some u)(hu: ∀ o w,u≠ .jB o w):wx K (upd H c o') a xs:=by
 rcases h with⟨o,h⟩ | h
 . exact .inl ⟨o,by rw[aB (pT h hc λz=>hu _ _ z.symm)];exact h⟩
 . exact .inr h
theorem Kp.jB{st a:Addr}{H H':Hp}{K:PySem.W.Frag}{xs:List V}{kvs:List (Key × V)}(x:Kp st H H')(ha:H st=some (.dK kvs))(h:wx K H a xs):wx K H' a xs:=by
 rcases h with⟨o,h⟩ | h
 . exact .inl ⟨o,x _ _ (pT h ha (by intro z;cases z)) h⟩
 . exact .inr h
theorem i4.jB{a:Addr}{H H':Hp}{K:PySem.W.Frag}{xs:List V}(x:i4 H H')(h:wx K H a xs):wx K H' a xs:=by
 rcases h with⟨o,h⟩ | h
 . exact .inl ⟨o,x _ _ h⟩
 . exact .inr h
noncomputable def jS(K:PySem.W.Frag)(H:Hp)(st:Addr)(k:Int)(l:Option Int):Prop:= ∃(a:Addr)(ns:List Int),H st=some (.dK (stK a k l))/\wx K H a (ns.map V.int)/\ns.length<=63/\0<=k
theorem jS.keep{K:PySem.W.Frag}{H H':Hp}{st:Addr}{k:Int}{l:Option Int}(x:jS K H st k l)(y:Kp st H H')(e:H' st=H st):jS K H' st k l :=
 let ⟨a,ns,h1,h2,h3,h4⟩:=x;⟨a,ns,e.trans h1,y.jB h1 h2,h3,h4⟩
theorem jS.same{K:PySem.W.Frag}{H H':Hp}{st:Addr}{k:Int}{l:Option Int}(x:jS K H st k l)(y:i4 H H'):jS K H' st k l :=
 let ⟨a,ns,h1,h2,h3,h4⟩:=x;jS.keep ⟨a,ns,h1,h2,h3,h4⟩ y.kp ((y _ _ h1).trans h1.symm)
theorem jS.upd{K:PySem.W.Frag}{H:Hp}{st c:Addr}{k:Int}{l:Option Int}{u o:HO}(x:jS K H st k l)(hc:H c=some u)(hu: ∀ o w,u≠ .jB o w)(hn:c≠st):jS K (upd H c o) st k l :=
 let ⟨a,ns,h1,h2,h3,h4⟩:=x;⟨a,ns,by rw[aB (Ne.symm hn)];exact h1,h2.upd hc hu,h3,h4⟩
theorem jS.at{K:PySem.W.Frag}{H:Hp}{st:Addr}{k:Int}{l:Option Int}(x:jS K H st k l): ∃ kvs,H st=some (.dK kvs):=let ⟨a,ns,h1,_⟩:=x;⟨_,h1⟩
theorem jS.pos{K:PySem.W.Frag}{H:Hp}{st:Addr}{k:Int}{l:Option Int}(x:jS K H st k l):0<=k:=let ⟨a,ns,h1,_,_,h⟩:=x;h
noncomputable def noStar:Expr->Bool
 | .Starred _ _=>false
 | _=>true
theorem cx{e:Expr}{es:List Expr}{env:Env}(h:noStar e=true):starEach (e::es) env=(false,eval e env)::starEach es env:=by
 cases e<;>first | rfl | cases h
theorem jT{pos:Pos}{env:Env}: ∀{es:List Expr},es.all noStar=true->(backTo pos (starEach es env)).any (·.1)=false
 | [],_=>rfl
 | e::es,h=>by
  have h:=Bool.and_eq_true_iff.mp (List.all_cons ▸ h);rw[cx h.1];have:=jT (pos:=pos) (env:=env) h.2;unfold backTo at this ⊢;simp only[List.map_cons,List.any_cons,Bool.false_or];exact this
section
variable{X:Cx}{e:Expr}{es:List Expr}{te:TE}{t:TA}
theorem pk(ha:PE X e te)(hr:PA X es t)(hs:noStar e=true:=by rfl):PA X (e::es) (yJ te t):=B1 ha hr (cx hs)
variable{x:Str}{k j:Nat}{ps:List Str}{sp:Sp}{p pos:Pos}{id T:String}{r:List V->Hp->VK->Prop}
theorem kd(D:iq X.prog X.w X.K X.mg X.base x j ps sp)(hr:dG k X.A)(hg:Gl X x)(hj:j<=k)(ha:PA X (e::es) t)(hdb:(x == ("__debug__" :Str))=false:=by decide)(he:noStar e=true:=by rfl)(hpl:es.all noStar=true:=by rfl) :
  PE X (.Call (.Name x p) (e::es) [] pos) (vJ sp [] E0 t):=OV D hr hg hj ha hdb (cx he) (jT hpl)
theorem kB(hc:aZ X (.builtin id) r)(hg:Gl X x)(hm:X.mg x=none)(hv:bootBuiltins x=some (.builtin id))(ha:PA X (e::es) t)(hn:x≠ "__name__" :=by decide)(hdb:(x == ("__debug__" :Str))=false:=by decide)(he:noStar e=true:=by rfl)(hpl:es.all noStar=true:=by rfl) :
  PE X (.Call (.Name x p) (e::es) [] pos) (Hk r t):=AQ hc hg hm hv ha hn hdb (cx he) (jT hpl)
theorem kT(hc:aZ X (.type T) r)(hg:Gl X x)(hm:X.mg x=none)(hv:bootBuiltins x=some (.type T))(ha:PA X (e::es) t)(hn:x≠ "__name__" :=by decide)(hdb:(x == ("__debug__" :Str))=false:=by decide)(he:noStar e=true:=by rfl)(hpl:es.all noStar=true:=by rfl) :
  PE X (.Call (.Name x p) (e::es) [] pos) (Hk r t):=yh hc hg hm hv ha hn hdb (cx he) (jT hpl)
end
structure QE(X:Cx)(e:Expr)(t:TE):Prop where h:PE X e t
structure QT(X:Cx)(e:Expr)(t:TT):Prop where h:PT X e t
structure QW(X:Cx)(e:Expr)(t:TT):Prop where h:PW X e t
structure QA(X:Cx)(es:List Expr)(t:TA):Prop where h:PA X es t
structure QO(X:Cx)(e:Option Expr)(t:TO):Prop where h:PO X e t
structure QS(X:Cx)(s:Stmt)(t:TS):Prop where h:PS X s t
structure zv(X:Cx)(s:List Stmt)(t:TS):Prop where h:uC X s t
structure QG(X:Cx)(e:Expr)(t:TG):Prop where h:PG X e t
structure K0(X:Cx)(e:List Expr)(t:p6):Prop where h:Nx X e t
structure QI(X:Cx)(tg e:Expr)(t:TI):Prop where h:PI X tg e t
structure QF(X:Cx)(es:List Expr)(t:TT):Prop where h:PF X es t
structure QP(X:Cx)(pos:Pos)(ks:List (Option Expr))(vs:List Expr)(t:List (TE × TE)):Prop where h:ML X pos ks vs t
section
variable{X:Cx}{a b c e o i:Expr}{es:List Expr}{ta tb tc te td ty tx tv to ti:TE}{t t':TT}{tr:TA}{pos p p2 pos' apos cpos:Pos}{x y:Str}
theorem qv(i:Nat){x:Str}{pos:Pos}(hN:X.N[i]?=some x:=by rfl)(hv:Hv X.env.scope x:=by first | exact Or.inl rfl | exact Or.inr (Or.inl rfl) | exact Or.inr (Or.inr rfl))(hd:(x == ("__debug__" :Str))=false:=by decide)
  (hcd:(x == ("__classdict__" :Str))=false:=by decide):QE X (.Name x pos) (Jd i):=⟨zV hN hv hd hcd⟩
theorem Hg{n:Int}{j:Nat}:QE X (.Constant (.int n) j pos) (tC (.int n)):=⟨JR⟩
theorem LS{n:Bool}{j:Nat}:QE X (.Constant (.bool n) j pos) (tC (.bl n)):=⟨Mr⟩
theorem Ky{j:Nat}:QE X (.Constant .none j pos) (tC .non):=⟨GB⟩
theorem G6{n:Str}{j:Nat}:QE X (.Constant (.str n) j pos) (tC (.str n)):=⟨Ii⟩
theorem CU{v:V}{u:Value}(hg:Gl X x)(hm:X.mg x=some u)(r:RelV v u)(hd:(x == ("__debug__" :Str))=false:=by decide):QE X (.Name x pos) (tC v):=⟨wN hg hm r hd⟩
theorem EA{v:V}{u:Value}(hg:Gl X x)(hm:X.mg x=none)(hv:bootBuiltins x=some u)(r:RelV v u)(hn:x≠ "__name__" :=by decide)(hd:(x == ("__debug__" :Str))=false:=by decide):QE X (.Name x pos) (tC v):=⟨ER hg hm hv r hn hd⟩
theorem NK{op:Operator}{r:R2}(ho:di X (binaryOp op) r)(ha:QE X a ta)(hb:QE X b tb):QE X (.BinOp a op b pos) (Dm r ta tb):=⟨Lf ho ha.h hb.h⟩
theorem MW{op:UnaryOp}{r:V->Hp->VK->Prop}(ho:KW X (unaryOp op) r)(ha:QE X a ta):QE X (.UnaryOp op a pos) (PD r ta):=⟨Lr ho ha.h⟩
theorem Hi(ha:QE X a ta):QE X (.UnaryOp .Not a pos) (Fu ta):=⟨GA ha.h⟩
theorem IV{op:BoolOp}(h:QE X a ta):QE X (.BoolOp op [a] pos) ta:=⟨HD h.h⟩
theorem Gj{rest:List Expr}(ha:QE X a ta)(hb:QE X (.BoolOp .And (b::rest) pos) tb):QE X (.BoolOp .And (a::b::rest) pos) (Fy ta tb):=⟨IQ ha.h hb.h⟩
theorem MU{rest:List Expr}(ha:QE X a ta)(hb:QE X (.BoolOp .Or (b::rest) pos) tb):QE X (.BoolOp .Or (a::b::rest) pos) (Nr ta tb):=⟨Mo ha.h hb.h⟩
theorem Ar(hc:QT X c t)(ha:QE X a ta)(hb:QE X b tb):QE X (.IfExp c a b pos) (PL t ta tb):=⟨AI hc.h ha.h hb.h⟩
theorem Ks{x1}(h:QA X es tr):QE X (.Tuple es x1 pos) (LZ tr):=⟨GO h.h⟩
theorem GZ(h:QA X es tr):QE X (.List es pos) (LW tr):=⟨Ie h.h⟩
theorem Bn:QE X (.Dict [] [] pos) yI:=⟨Bh⟩
theorem CY:QP X pos [] [] []:=⟨Ea⟩
theorem zc{k v:Expr}{ks:List (Option Expr)}{vs:List Expr}{tk:TE}{trs:List (TE × TE)}(hk:QE X k tk)(hv:QE X v tv)(hr:QP X pos ks vs trs):QP X pos (some k::ks) (v::vs) ((tk,tv)::trs):=⟨Ad hk.h hv.h hr.h⟩
theorem D4{ks:List (Option Expr)}{vs:List Expr}{trs:List (TE × TE)}(h:QP X pos ks vs trs)(hall:ks.all (·.isSome)=true)(hl:ks.length=vs.length)(h0:ks≠[])(h15:ks.length<=15):QE X (.Dict ks vs pos) (Fq trs):=⟨Ff h.h hall hl h0 h15⟩
theorem DT:QO X none wu:=⟨E9⟩
theorem EN(h:QE X e te):QO X (some e) (Fi te):=⟨Cy h.h⟩
theorem Bw{r:V->Option Int->Option Int->Hp->VK->Prop}{lo hi:Option Expr}{tl th:TO}(hr:BV X r)(he:QE X e te)(hl:QO X lo tl)(hu:QO X hi th):QE X (.Subscript e (.Slice lo hi none p2) pos) (PQ r te tl th):=⟨y6 hr he.h hl.h hu.h⟩
theorem LF{r:R2}(hr:yi X r)(ha:QE X a ta)(hb:QE X b tb)(hs:qj b):QE X (.Subscript a b pos) (Dm r ta tb):=⟨MV hr ha.h hb.h hs⟩
theorem zP{f:Expr}(hu:X.A.units+1 < cLine)(ho:QE X o td)(he:QE X e ty)(hf:QE X f tx)(m:M2 X o "get" apos e f cpos):QE X (.Call (.Attribute o "get" apos) [e,f] [] cpos) (Av td ty tx):=⟨zY hu ho.h he.h hf.h m⟩
theorem vd:QA X [] Nn:=⟨HM⟩
theorem qk(ha:QE X e te)(hr:QA X es tr)(hs:noStar e=true:=by rfl):QA X (e::es) (yJ te tr):=⟨pk ha.h hr.h hs⟩
variable{k j:Nat}{ps:List Str}{sp:Sp}{id T:String}{r:List V->Hp->VK->Prop}
theorem qd(D:iq X.prog X.w X.K X.mg X.base x j ps sp)(hr:dG k X.A)(hg:Gl X x)(hj:j<=k)(ha:QA X (e::es) tr)(hdb:(x == ("__debug__" :Str))=false:=by decide)(he:noStar e=true:=by rfl)(hpl:es.all noStar=true:=by rfl) :
  QE X (.Call (.Name x p) (e::es) [] pos) (vJ sp [] E0 tr):=⟨kd D hr hg hj ha.h hdb he hpl⟩
theorem qB(hc:aZ X (.builtin id) r)(hg:Gl X x)(hm:X.mg x=none)(hv:bootBuiltins x=some (.builtin id))(ha:QA X (e::es) tr)(hn:x≠ "__name__" :=by decide)(hdb:(x == ("__debug__" :Str))=false:=by decide)(he:noStar e=true:=by rfl)(hpl:es.all noStar=true:=by rfl) :
  QE X (.Call (.Name x p) (e::es) [] pos) (Hk r tr):=⟨kB hc hg hm hv ha.h hn hdb he hpl⟩
theorem qT(hc:aZ X (.type T) r)(hg:Gl X x)(hm:X.mg x=none)(hv:bootBuiltins x=some (.type T))(ha:QA X (e::es) tr)(hn:x≠ "__name__" :=by decide)(hdb:(x == ("__debug__" :Str))=false:=by decide)(he:noStar e=true:=by rfl)(hpl:es.all noStar=true:=by rfl) :
  QE X (.Call (.Name x p) (e::es) [] pos) (Hk r tr):=⟨kT hc hg hm hv ha.h hn hdb he hpl⟩
theorem MD{name:Str}{rm:V->List V->Hp->VK->Prop}(pa:PlainAttrs T)(slot:Slot T name id)(hty:typeOf (.builtin id)=pure (.type "method_descriptor"))(hm:FK X id rm)(ho:QE X o to)(ha:QA X [e] tr)
  (hbase:attributeBase o name X.env (eval o X.env)=eval o X.env:=by rfl) (hline:(apos.endLine == cpos.line)=true:=by rfl) (hs:noStar e=true:=by rfl) :
  QE X (.Call (.Attribute o name apos) [e] [] cpos) (P8 X.K T rm to tr):=⟨Mm pa slot hty hm ho.h ha.h hbase (by rw[cx hs];rfl) hline (cx hs) rfl⟩
theorem CI{op:CmpOp}{r:R2}(ho:di X (compareOp op) r)(ha:QE X a ta)(hb:QE X b tb)(hm:behindInMarks op b=false):QE X (.Compare a [op] [b] pos) (Dm r ta tb):=⟨CG ho ha.h hb.h hm⟩
theorem Co{op:CmpOp}{r:R2}(ho:di X (compareOp op) r)(ha:QE X a ta)(hb:QE X b tb)(hm:behindInMarks op b=false):QT X (.Compare a [op] [b] pos) (zf (Dm r ta tb)):=⟨Cq ho ha.h hb.h hm⟩
theorem yz{op op':CmpOp}{r r':R2}(ho:di X (compareOp op) r)(ho':di X (compareOp op') r')(ha:QE X a ta)(hb:QE X b tb)(hc:QE X c tc)(hm:lastMarks [op,op'] [b,c]=false:=by with_unfolding_all rfl):QE X (.Compare a [op,op'] [b,c] pos) (uB r r' ta tb tc):=⟨zC ho ho' ha.h hb.h hc.h hm⟩
theorem IZ{j:Nat}(ha:QE X a ta):QE X (.Compare a [.Is] [.Constant .none j pos'] pos) (JC ta):=⟨HF (yG ha.h)⟩
theorem GH{j:Nat}(ha:QE X a ta):QT X (.Compare a [.Is] [.Constant .none j pos'] pos) (tB (JC ta)):=⟨zw (yG ha.h)⟩
theorem Dl{j:Nat}(ha:QE X a ta):QT X (.Compare a [.IsNot] [.Constant .none j pos'] pos) (tB (Fo ta)):=⟨zw (EI ha.h)⟩
theorem E5(ha:QT X a t):QW X (.BoolOp .And [a] pos) t:=⟨pw_and1 ha.h⟩
theorem Hc(ha:QT X a t):QW X (.BoolOp .Or [a] pos) t:=⟨pw_or1 ha.h⟩
theorem JQ{rest:List Expr}(ha:QT X a t)(hb:QW X (.BoolOp .And (b::rest) pos) t'):QW X (.BoolOp .And (a::b::rest) pos) (ND t t'):=⟨pw_and ha.h hb.h⟩
theorem Nk{rest:List Expr}(ha:QT X a t)(hb:QW X (.BoolOp .Or (b::rest) pos) t'):QW X (.BoolOp .Or (a::b::rest) pos) (Qc t t'):=⟨pw_or ha.h hb.h⟩
theorem QW.pt(h:QW X e t):QT X e t:=⟨h.h.pt⟩
theorem Jm(ha:QT X a t):QT X (.UnaryOp .Not a pos) (Lp t):=⟨Kt ha.h⟩
theorem Hm(h:QE X e te)(he: ∀ whole,isTrue e X.env whole=(do let v <- whole;standAt e.pos;holding [v] (truthy v)):=by intro _;rfl):QT X e (tB te):=⟨IC h.h he⟩
theorem vL{i:Nat}(hN:X.N.Nodup)(hi:X.N[i]?=some x)(hx:Loc X.env.scope x)(hf:X.fn x=true\/X.env.scope.names.lookup x=some .local:=by first | exact .inl rfl | exact .inr rfl | assumption):QG X (.Name x pos) (fj i):=⟨C9 hN hi hx hf⟩
theorem EY:K0 X [] yg:=⟨Dw⟩
theorem y8{t:TG}{u:p6}(h1:QG X e t)(h2:K0 X es u)(hs:(assignEach (e::es) X.env).map (·.2)=assign e X.env::(assignEach es X.env).map (·.2):=by rfl):K0 X (e::es) (lF t u):=⟨zM h1.h h2.h hs⟩
theorem zT{k:Nat}{t:p6}{n:Nat}(hc:X.calm=true)(h:K0 X es t)(hn:(assignEach es X.env).length=n:=by rfl)(hst:(assignEach es X.env).findIdx? (·.1)=none:=by rfl):QG X (.Tuple es k pos) (uO X.K n t):=⟨Io hc h.h hn hst⟩
variable{tg iter l:Expr}{wi:TI}{g:TG}{ta':TA}
theorem He:QF X [] Fv:=⟨Hh⟩
theorem Kv(h:QT X c t):QF X [c] t:=⟨KA h.h⟩
variable{scope:Scope}{ifs:List Expr}{body rest:List Stmt}{spos py:Pos}{tb' ts us:TS}{st:Stmt}
theorem BL(vars:List Str)(hc:X.calm=true)(hx: ∀ v s,¬ X.xe v s)(hkind:scope.kind= .function)(hlc:hV scope.names X.env.scope.names X.N vars=true)(hi:QI X tg iter wi)
  (hb: ∀ cl C s₀ H₀ ex pn,QG (fI X vars scope cl C s₀ H₀ ex pn) tg g/\QF (fI X vars scope cl C s₀ H₀ ex pn) ifs t/\QE (fI X vars scope cl C s₀ H₀ ex pn) e te) (hgk:GK X.N.length g)
  (hs: ∀ x,foldedSetIterable iter X.env x=pure x:=by intro _;rfl):QE X (.ListComp e [⟨tg,iter,ifs,0⟩] scope pos) (N4 vars.length wi g t te) :=
 ⟨AS vars hc hx hkind hlc hi.h (λcl C s₀ H₀ ex pn=>let ⟨h1,h2,h3⟩:=hb cl C s₀ H₀ ex pn;⟨h1.h,h2.h,h3.h⟩) hgk hs⟩
theorem AM(vars:List Str)(i:Nat)(hc:X.calm=true)(hx: ∀ v s,¬ X.xe v s)(hkind:scope.kind= .function)(hlc:hV scope.names X.env.scope.names X.N vars=true)(hN:X.N.Nodup)(hiy:X.N[i]?=some y)(hy:Loc X.env.scope y)(hi:QI X tg iter wi)
  (hb: ∀ cl C s₀ H₀ ex pn,QG (fI X vars scope cl C s₀ H₀ ex pn) tg g/\QF (fI X vars scope cl C s₀ H₀ ex pn) ifs t/\QE (fI X vars scope cl C s₀ H₀ ex pn) e te) (hgk:GK X.N.length g)
  (hsw:swapsWith (.ListComp e [⟨tg,iter,ifs,0⟩] scope pos) (some (.Name y py)) spos.line X.env=pure true:=by rfl) (hs: ∀ x,foldedSetIterable iter X.env x=pure x:=by intro _;rfl)
  (hf:X.fn y=true\/X.env.scope.names.lookup y=some .local:=by first | exact .inl rfl | exact .inr rfl | assumption) :
  QS X (.Assign [.Name y py] (.ListComp e [⟨tg,iter,ifs,0⟩] scope pos) spos) (Am vars.length i wi g t te) :=
 ⟨Ao vars i hc hx hkind hlc hN hiy hy hi.h (λcl C s₀ H₀ ex pn=>let ⟨h1,h2,h3⟩:=hb cl C s₀ H₀ ex pn;⟨h1.h,h2.h,h3.h⟩) hgk hsw hs hf⟩
theorem Ko{i:Nat}(hN:X.N.Nodup)(hi:X.N[i]?=some x)(hx:Loc X.env.scope x)(he:QE X e te)(hs:swapsWith e (some (.Name x pos')) pos.line X.env=pure false:=by rfl)(hf:X.fn x=true\/X.env.scope.names.lookup x=some .local:=by first | exact .inl rfl | exact .inr rfl | assumption) :
  QS X (.Assign [.Name x pos'] e pos) (DK te (fj i)):=⟨IY hN hi hx he.h hs hf⟩
theorem zr(he:QE X e te)(hg:QG X tg g)(hs:swapsWithSole [tg] e pos.line X.env=pure false:=by rfl)(hw:swappedStores [tg] e X.env=pure none:=by rfl)(h1:(assignEach [tg] X.env).map (·.2)=[assign tg X.env]:=by rfl):QS X (.Assign [tg] e pos) (DK te g):=⟨Iu he.h hg.h hs hw h1⟩
theorem MZ{A B:List Stmt}(hc:QT X c t)(ha:zv X A ts)(hb:zv X B us):QS X (.If c A B pos) (NO t ts us):=⟨MY hc.h ha.h hb.h⟩
theorem HY(hp:PassesOwn (model X.prog X.w) X.A X.env X.xe)(hc:X.calm=true)(hi:QI X tg iter wi)(hg:QG X tg g)(hb:zv X body tb')(hs: ∀ x,foldedSetIterable iter X.env x=pure x:=by intro _;rfl):QS X (.For tg iter body [] pos) (MN wi g tb'):=⟨HS hp hc hi.h hg.h hb.h hs⟩
theorem AG(hp:PassesOwn (model X.prog X.w) X.A X.env X.xe)(hc:QT X c t)(hb:zv X body tb'):QS X (.While c body [] pos) (Bv t tb'):=⟨zO hp hc.h hb.h⟩
theorem C0(he:QE X e te)(hs:swapsWith e none pos.line X.env=pure false:=by rfl):QS X (.Expr e pos) (FT te):=⟨C3 he.h hs⟩
theorem KL(he:QE X e te):QS X (.Return (some e) pos) (LN te):=⟨GN he.h⟩
theorem DY:zv X [] yT:=⟨Eh⟩
theorem zL(h1:QS X st ts)(h2:zv X rest us):zv X (st::rest) (JB ts us):=⟨AO h1.h h2.h⟩
theorem DE(h1:QS X st ts):zv X [st] ts:=⟨E3 h1.h⟩
end
theorem At.Ou{P:Program}{w:World}{K:PySem.W.Frag}{mg:Str->Option Value}{base:Heap}{x:Str}{st:Stmt}{N ps:List Str}{k:Nat}{sp:Sp}(a:At K mg x st)(S:ay N ps (aj st))
  (hb: ∀(kV doc pm:Value)(an:Option Addr)(cdv ct:Value)(us:List Value),us.length=ps.length->bindArgs (PySem.W.fnOf x x (c6 st) (bz st) (aj st) .none kV doc pm an cdv ct) ⟨us,[]⟩=pure (ps.zip us))
  (len: ∀ vs H Q E,sp vs H Q E->vs.length=ps.length)
  (hbody: ∀(f:Addr)(cdv:Value)(A:Around)(outer:List Env)(s:Shared)(H:Hp)(vs:List V)(Q:VK)(E:XK),dG k (A.deeper (envOfC x (aj st) s.heap.objs.size f cdv))->sp vs H Q E ->
   ∃ t,zv (jv rM P w K mg base N x (aj st) f cdv A outer s H E).oR (bz st) t/\t { nx:=λ_ H'=>Q .non H',rt:=Q } (start N vs) H):iq P w K mg base x (k+1) ps sp :=
 a.ok S hb len λf cdv A outer s H vs Q E hr h=>let ⟨t,q,z⟩:=hbody f cdv A outer s H vs Q E hr h;⟨t,q.h,z⟩
theorem fF{xs:List V}{r:Int}(h:0<=r):lS xs (some r) none=xs.drop r.toNat:=by
 have e:r=((r.toNat:Nat):Int):=by omega
 unfold lS;rw[e,HT.l8,HT.j2];simp only[Int.toNat_natCast];rcases Nat.le_total r.toNat xs.length with z | z
 . rw[Nat.min_eq_left z];exact List.take_of_length_le (by rw[List.length_drop];omega)
 . rw[Nat.min_eq_right z,List.drop_eq_nil_of_le (Nat.le_refl _),List.drop_eq_nil_of_le z];simp
theorem mO{xs:List V}{r:Int}(h:0<=r):lS xs none (some r)=xs.take r.toNat:=by
 have e:r=((r.toNat:Nat):Int):=by omega
 unfold lS;rw[e,HT.l8,HT.j2];simp only[Int.toNat_natCast,List.drop_zero,Nat.sub_zero];rcases Nat.le_total r.toNat xs.length with z | z
 . rw[Nat.min_eq_left z]
 . rw[Nat.min_eq_right z,List.take_of_length_le (Nat.le_refl _),List.take_of_length_le z]
theorem Qw{c A B:Prop}[Decidable c](hc: ¬ c)(h:B):if c then A else B:=by rw[if_neg hc];exact h
noncomputable def Qs(k:Nat)(g:TG)(tt:TT)(te:TE)(σ :St)(Q:VK)(J:It)(H1:Hp):Prop:= ∃ W:Nat->Nat->List V->Hp->Prop,(∃ m,W 0 m [] H1)/\ ∀ i m ys H,W i m ys H ->
 (J.stop i H/\ ∀ p,H p=none->Q (.ref p) (upd H p (.lst ys))) \/
 (J.go i H/\ys.length < sizeLine/\ ∀ x H',J.K5 i H x H'->g x (σ ++List.replicate k none) H' fun σ2 H2=>tt σ2 H2 λb H3 =>
  if b=true then te σ2 H3 λy H4=> ∃ m',m' < m/\W (i+1) m' (ys++[y]) H4 else ∃ m',m' < m/\W (i+1) m' ys H3)
class Pn (trs:List (TE × TE)):Prop where
 m: ∀ σ H Q Q',(∀ ps H1,Q ps H1->Q' ps H1)->kG trs σ H Q->kG trs σ H Q'
theorem yu.Ou{P:Program}{w:World}{K:PySem.W.Frag}{mg:Str->Option Value}{base:Heap}{x:Str}{st:Stmt}{f:Addr}{fd:FuncData}{N ps:List Str}{k:Nat}{sp:Sp}(F:yu K x x st f fd)(S:ay N ps (aj st))(len: ∀ vs H Q E,sp vs H Q E->vs.length=ps.length)
  (hbody: ∀(f:Addr)(cdv:Value)(A:Around)(outer:List Env)(s:Shared)(H:Hp)(vs:List V)(Q:VK)(E:XK),dG k (A.deeper (envOfC x (aj st) s.heap.objs.size f cdv))->sp vs H Q E ->
   ∃ t,zv (jv rM P w K mg base N x (aj st) f cdv A outer s H E).oR (bz st) t/\t { nx:=λ_ H'=>Q .non H',rt:=Q } (start N vs) H):hZ P w K mg base rM (k+1) f fd ps sp :=
 F.ok S len λcdv A outer s H vs Q E hr h=>let ⟨t,q,z⟩:=hbody f cdv A outer s H vs Q E hr h;⟨t,q.h,z⟩
theorem Km{K:PySem.W.Frag}{H:Hp}{a:Addr}{xs:List V}(o:zX H)(h:gi K H a xs):wx K H a xs:=by
 rcases h with(h | ⟨u,h⟩) | h
 . rcases o a with z | ⟨u,ys,z⟩<;>(rw[h] at z;cases z)
 . exact .inl ⟨u,h⟩
 . exact .inr h
noncomputable def KD(P:Program)(w:World)(K:PySem.W.Frag)(a:Addr)(kvs:List (Key × V)):Prop:=(a == sysModules)=false /\
 ∃(o:Obj)(es:Array DictEntry)(ep:Nat)(vs:List (Key × Value)),K.lookup a=some o/\o.ExactDict/\o.data= .dict es ep/\PySem.KeysOf (aK P w) es/\Pairs (aK P w) es.toList vs/\(vs.map (·.1)).Nodup/\KV kvs vs
theorem Inv.kd{X:Cx}{pins:List (Addr × Obj)}{σ :St}{H:Hp}{s:Shared}{a:Addr}{kvs:List (Key × V)}(I:Inv X pins σ H s)(h:KD X.prog X.w X.K a kvs): ∃ vs,KV kvs vs/\s.heap.DictOf (aK X.prog X.w) a vs:=by
 obtain⟨_,o,es,ep,vs,h1,h2,h3,h4,h5,h6,h7⟩:=h;exact⟨vs,h7,o,es,ep,I.ku a o h1,h2,h3,h4,h5,h6⟩
noncomputable def Fj(kvs:List (Key × V))(ty:TE):TE:=fun σ H Q=>ty σ H λy H2=> ∃ k v,y=kV k/\gz kvs k=some v/\Q v H2
section
variable{X:Cx}{o i:Expr}{pos:Pos}{ty:TE}{a:Addr}{kvs:List (Key × V)}
theorem Ek(hk:KD X.prog X.w X.K a kvs)(ho:PE X o (tC (.ref a)))(hi:PE X i ty)(hs:Ee i):PE X (.Subscript o i pos) (Fj kvs ty):=by
 intro pins s σ H Q I h;refine DW PySem.F.slot_dict_getitem.lookup hs (cQ (ho pins s σ H (λx H1=>x= .ref a/\H1=H) I ⟨rfl,rfl⟩) λu s1 ⟨x,H1,I1,rx,ex,eH⟩=>?_);subst ex eH;obtain rfl:u=Value.ref a:=rx;refine cQ (hi pins s1 σ H1 _ I1 h) λiv s2 ⟨y,H2,I2,ry,k,v,ey,l,q2⟩=>?_;subst ey;obtain⟨vs,rel,dd⟩:=I2.kd hk;obtain⟨w',hw,rw'⟩:=jX.some_of (v:=v) (o:=valueAt vs k) (by rw[<- l];exact rel.val k);exact⟨dd.typeIs,wpAny_getItem_of (j6 ry) dd.mapOf hw ⟨v,H2,I2.tok _,rw',q2⟩⟩
theorem Du(hk:KD X.prog X.w X.K a kvs)(ho:QE X o (tC (.ref a)))(hi:QE X i ty)(hs:Ee i):QE X (.Subscript o i pos) (Fj kvs ty):=⟨Ek hk ho.h hi.h hs⟩
end
noncomputable def CW(w:World)(p:Str × Tok × Value):DictEntry:={ hash:=PyData.keyHash w.params p.1,key:= .str p.1 p.2.1,val:=p.2.2 }
theorem LG{P:Program}{w:World}{K:PySem.W.Frag}{a:Addr}{ls:List (Str × Tok × Value)}{kvs:List (Key × V)}{ep:Nat}(hl:K.lookup a=some { cls:= .type "dict",data:= .dict (ls.map (CW w)).toArray ep })(ha:(a == sysModules)=false)
  (hn:(ls.map λp=>(Sum.inr p.1:Key)).Nodup) (hk:KV kvs (ls.map λp=>((Sum.inr p.1:Key),p.2.2))):KD P w K a kvs:=by
 refine⟨ha,_,_,ep,ls.map λp=>((Sum.inr p.1:Key),p.2.2),hl,⟨rfl,rfl,rfl⟩,rfl,?_,?_,by rw[List.map_map];exact hn,hk⟩
 . intro e he;have he':e∈ls.map (CW w):=List.mem_toArray.mp he;obtain⟨p,_,rfl⟩:=List.mem_map.mp he';exact⟨.inr p.1,kC p.1 p.2.1,rfl⟩
 . clear hl hn hk
   show Pairs (aK P w) (ls.map (CW w)) _
   induction ls with
   | nil=>exact .nil
   | cons p r ih=>exact .cons (kC p.1 p.2.1) rfl ih
theorem sD{bs:List Bool}: ∀{us:List Value},Vals (bs.map V.bl) us->LSm.BoolsAre us bs:=by
 induction bs with
 | nil=>intro us h;cases h;exact .nil
 | cons b r ih =>
  intro us h
  cases h with
  | cons hx ht =>
   cases(show _=Value.bool b from hx)
   exact .cons _ (ih ht)
theorem wV{s:Shared}{h':Heap}{o:Obj}(hk: ∀ b x,b ∉ [s.heap.objs.size]->(s.heap.push o).get? b=some x->h'.get? b=some x): ∀ b x,s.heap.get? b=some x->h'.get? b=some x :=
 λb x e=>hk b x (by intro z;rw[List.mem_singleton.mp z] at e;exact absurd (Heap.lt_size e) (Nat.lt_irrefl _)) (Heap.get?_push_of_some _ e)
section
variable{X:Cx}
noncomputable def OW(K:PySem.W.Frag):List V->Hp->VK->Prop:=λxs H Q=> ∃(p:Addr)(bs:List Bool),xs=[.ref p]/\gi K H p (bs.map V.bl)/\Q (.bl (bs.all id)) H
theorem D3(hc:X.calm=true):aZ X (.builtin "all") (OW X.K):=by
 intro pins s σ H xs us Q I r h;obtain⟨p,bs,rfl,hS,q⟩:=h;obtain⟨u,rfl,ru⟩:=vals1 r;cases(show u=Value.ref p from ru);obtain⟨av,hv,pl,hz⟩:=I.list hS;have hl:=pl.isList;have hb:=sD hv;have hlt:p < s.heap.objs.size:=by obtain⟨_,e,_⟩:=hl;exact Heap.lt_size e
 refine call_all_walk (wpAny_pyIter_list (items:=av.toArray) hl ?_);refine⟨s.heap.objs.size,[s.heap.objs.size,p],[s.heap.objs.size],av.toArray.size,_,_,λi=>(bs[i]?).getD true,rfl,Walks.list (A:=X.A.in1) (I.ok.hd hc) _ p (Nat.ne_of_lt hlt) av.toArray,⟨⟨_,Heap.get?_push_size _ rfl,rfl,rfl⟩,hl.push _⟩,?_,?_⟩
 . intro i v s' Q' E' hP hQ;obtain⟨b,e,rfl⟩:=hb.get i v (by simpa using hP);simp only[Option.getD_some,e] at hQ;exact wpAny_truthy_bool hQ
 . intro h' tk hk;rw[show((List.range av.toArray.size).all λi=>(bs[i]?).getD true)=bs.all id by rw[List.size_toArray,hb.length];exact LSm.range_all bs];exact⟨.bl (bs.all id),H,I.kept (wV hk),rfl,q⟩
end
noncomputable def Ob (x:Str):It:=⟨λi _=>i < x.cps.size,λi H v H'=>H'=H∧ ∃ c,x.cps[i]?=some c∧v= .str ⟨#[c]⟩,λi _=>i=x.cps.size⟩
theorem tM {P:Program} {w:World} {K:PySem.W.Frag} {tg:Expr} {ty:String} (x:Str) (t:Tok) (it:Addr) (hty:["enumerate", "zip", "dict_itemiterator", "dict_reverseitemiterator", "odict_iterator", "itertools.zip_longest", "itertools.pairwise"].contains ty=false)
  (W: ∀ A:Around,A.handled=none->Walks P w A it [it] [it] x.cps.size (SignAt x) (λi h=>h.IsStrIter it ty x t i)) (S: ∀ (A:Around) (i:Nat) (s:Shared) (Q:Value->Shared->Prop) (E:Value->Shared->Prop),s.heap.IsStrIter it ty x t i->Q (.ref it) s->wpAny (model P w) A (pyIter (.ref it)) Q E s) :
  Turn P w K tg (Ob x) [it] it (λi h=>h.IsStrIter it ty x t i) where
 mem:=by simp
 obj:=λi h st b hb=>by
  have e:b=it:=by simpa using hb
  subst e;obtain⟨o,e,c,d⟩:=st;exact⟨o,e,λv z=>by rw[d] at z;cases z⟩
 keep:=λi h h' st k=>let ⟨o,e,r⟩:=st;⟨o,k it (by simp) o e,r⟩
 item:=by
  intro X hP hw hK hc i pins s σ H E I hf st hg;subst hP hw hK;obtain⟨f0,f1,f2,f3,f4,f5⟩:=hf it (by simp);refine(W X.A (I.ok.hd hc)).item i s _ _ hg st λv h' tk hv st' hk=>?_;obtain⟨c,u,hx,rfl⟩:=hv;have I1:Inv X pins σ H { s with heap:=h',toks:=tk }:=I.turned (t':=tk) (λb o hb e=>hk b o (by simpa using hb) e) f0 f1 f3 f4 f5;obtain⟨o,e,cc,d⟩:=id st';exact⟨_,rfl,wG (s:={ s with heap:=h',toks:=tk }) e cc d hty ⟨.str ⟨#[c]⟩,H,I1,⟨_,rfl⟩,⟨rfl,c,hx,rfl⟩,st',λb hb=>(hf b hb).1⟩⟩
 done:=by
  intro X hP hw hK hc i pins s σ H E I hf st hg;subst hP hw hK;obtain⟨f0,f1,f2,f3,f4,f5⟩:=hf it (by simp);have hi:i=x.cps.size:=hg;subst hi;exact(W X.A (I.ok.hd hc)).done s _ _ st λh' tk hk=>⟨rfl,I.turned (t':=tk) (λb o hb e=>hk b o (by simpa using hb) e) f0 f1 f3 f4 f5⟩
 self:=λA i s Q E st h=>S A i s Q E st h
theorem jK{x:Str}{k:Nat}{g:TG}{tt:TT}{te:TE}[FJ g][FZ tt][FW te]{σ :St}{H:Hp}{Q:VK}(Pv:Nat->List V->Hp->Prop)(h0:Pv 0 [] H)(hl: ∀ i ys H,i<=x.cps.size->Pv i ys H->ys.length<=i)(hz:x.cps.size<=sizeLine)
  (hs: ∀ i c ys H,x.cps[i]?=some c->Pv i ys H->g (.str ⟨#[c]⟩) (σ ++List.replicate k none) H fun σ2 H2=>tt σ2 H2 λb H3=>if b=true then te σ2 H3 λy H4=>Pv (i+1) (ys++[y]) H4 else Pv (i+1) ys H3)
  (hd: ∀ ys H,Pv x.cps.size ys H-> ∀ p,H p=none->Q (.ref p) (upd H p (.lst ys))):Qs k g tt te σ Q (Ob x) H:=by
 refine⟨λi m ys H=>m=x.cps.size - i/\i<=x.cps.size/\Pv i ys H,⟨x.cps.size,by simp,Nat.zero_le _,h0⟩,?_⟩;rintro i m ys H ⟨rfl,hi,p⟩;have hy:=hl i ys H hi p;by_cases hlt:i < x.cps.size
 . refine .inr ⟨hlt,by omega,λv H' y=>?_⟩;obtain⟨e,c,hc,rfl⟩:=y;subst e;refine FJ.m (g:=g) _ _ _ _ _ (fun σ2 H2 z=>FZ.m (t:=tt) _ _ _ _ (λb H3 z=>?_) z) (hs i c ys _ hc p);cases b with
   | true =>
    rw[if_pos rfl] at z ⊢
    exact FW.m (t:=te) _ _ _ _ (λv H4 w=>⟨x.cps.size - (i+1),by omega,rfl,hlt,w⟩) z
   | false =>
    rw[if_neg Bool.false_ne_true] at z ⊢
    exact⟨x.cps.size - (i+1),by omega,rfl,hlt,z⟩
 . have e:i=x.cps.size:=by omega
   subst e;exact .inl ⟨rfl,hd ys H p⟩
theorem Fc{X:Cx}{x:Str}{a:Addr}{pos:Pos}(hg:Gl X x)(hm:X.mg x=some (.ref a))(hd:(x == ("__debug__" :Str))=false:=by decide):QE X (.Name x pos) (tC (.ref a)):=⟨wN hg hm rfl hd⟩
theorem oO(l:Addr)(o:Obj)(b:Str)(u:Tok) :
  Meets (Builtin.«dict.__eq__» ⟨[.ref l,.str b u],[]⟩) (λ_ R s=>s.heap.get? l=some o/\R (.ok (.ret .notImplemented)) s) :=
 .of_wp λprog w A R s h=>by
  obtain⟨hp,g,d,tk,os⟩:=s;obtain⟨hl,h⟩:=h;have f1:=PySem.F.sub_str_dict;wp_walk;exact⟨_,rfl,h⟩
theorem qf(b:Str)(u:Tok)(l:Addr)(c:Value)(es:Array DictEntry)(ep:Nat)(dd:Option Addr)(sl:Array (Option Value)) :
  Meets (Builtin.«str.__eq__» ⟨[.str b u,.ref l],[]⟩) (λ_ R s=>s.heap.get? l=some { cls:=c,dict:=dd,data:= .dict es ep,slots:=sl }/\R (.ok (.ret .notImplemented)) s) :=
 .of_wp λprog w A R s h=>by obtain⟨hp,g,d,tk,os⟩:=s;obtain⟨hl,h⟩:=h;wp_walk using AutoSeq1.wpAny_loadPart' hl,wpAny_load hl;exact⟨_,rfl,h⟩
theorem tE{A:Around}{s:Shared}{l:Addr}{o:Obj}{es:Array DictEntry}{ep:Nat}(b:Str)(u:Tok)(hl:s.heap.get? l=some o)(hx:o.ExactDict)(hd:o.data= .dict es ep)(hu:A.units < cLine):SeqAt.RcAt A s (.ref l) (.str b u) false:=λprog w E Q h=>by
 obtain⟨cls,dd,data,sl⟩:=o;have hc:cls= .type "dict" :=hx.1;simp only at hd;subst hc hd;exact SeqAt.rc_eq_decline_or (k:=false) ⟨_,hl,rfl⟩ (typeIs_str s b u) (by decide) PySem.F.sub_str_dict PySem.F.slot_dict_eq PySem.F.slot_str_eq_refl
  (λ_ hq=>call_meets PySem.F.slot_dict_eq ⟨_,hl,rfl⟩ PySem.F.entry_dict_eq (PySem.F.args_dict_eq_2 _ _) (oO l _ b u) ⟨hl,hq⟩)
  (λ_ hq=>call_meets PySem.F.slot_str_eq_refl (typeIs_str s b u) PySem.F.entry_str_eq (PySem.F.args_str_eq_2 _ _) (qf b u l (.type "dict") es ep dd sl) ⟨hl,hq⟩)
  (λ_ z=>wpAny_of_eq (show isSame (.ref l) (.str b u)=pure false from rfl) z) (.inr hu) h
noncomputable def LO(K:PySem.W.Frag):R2:=λx y H Q=> ∃ p z,x= .ref p/\y= .str z/\((∃ xs,gi K H p xs)\/(∃ xs,fe K H p xs)\/ ∃ kvs,H p=some (.dK kvs))/\Q (.bl false) H
noncomputable def Mg(K:PySem.W.Frag):V->Option Int->Option Int->Hp->VK->Prop:=λx lo hi H Q=> ∃ a xs,x= .ref a/\fe K H a xs/\(HT.dj xs.length 0 lo=0/\HT.dj xs.length xs.length hi=xs.length)/\Q (.ref a) H
noncomputable def FY(K:PySem.W.Frag):R2:=λx y H Q=> ∃ a b ys,x= .ref a/\y= .ref b/\fe K H a []/\fe K H b ys/\Q (.ref b) H
noncomputable def FI:R2:=λx y H Q=> ∃ a b,x= .str a/\y= .str b/\a.length+b.length<=sizeLine/\Q (.str (a++b)) H
theorem kM:fillsNumberSlot (.type "tuple") "mul" =pure false :=
 PySem.fillsNumberSlot_seq (id:= "tuple.__mul__") (r:=some (.builtin "tuple.__rmul__")) PySem.F.slot_tuple_mul.lookup (by decide +kernel) PySem.F.slot_tuple_rmul.lookup (by decide +kernel)
theorem qV:seqRepeat? (.type "tuple")=pure (some (.builtin "tuple.__mul__")):=by
 unfold seqRepeat?;rw[PySem.seqSlot_of (T:= "tuple") (name:= "__mul__") (id:= "tuple.__mul__") PySem.F.slot_tuple_mul.lookup (by decide +kernel),PySem.seqSlot_of (T:= "tuple") (name:= "__rmul__") (id:= "tuple.__rmul__") PySem.F.slot_tuple_rmul.lookup (by decide +kernel)];rfl
theorem nK(a:Int)(t:Tok)(l:Addr)(items:Array Value)(n:Nat)(dd:Option Addr)(sl:Array (Option Value)) :
  Meets (Builtin.«int.__rmul__» ⟨[.int a t,.ref l],[]⟩) (λ_ R s=>s.heap.get? l=some { cls:= .type "tuple",dict:=dd,data:= .seq items n,slots:=sl }/\R (.ok (.ret Value.notImplemented)) s) :=
 .of_wp λprog w A R s h=>by obtain⟨hp,g,d,tk,os⟩:=s;obtain⟨hl,h⟩:=h;wp_walk using AutoSeq1.wpAny_loadPart' hl,wpAny_load hl;exact⟨_,rfl,h⟩
theorem o7{prog:Program}{w:World}{A:Around}{E:Value->Shared->Prop}{s:Shared}{t sl:Addr}{items:Array Value}{vl vu:Value}{lo hi:Option Int}{Q:Value->Shared->Prop}(ht:IsTup s.heap t items)(hs:s.heap.IsSliceOf sl vl vu .none)(pl:IsPart vl lo)(pu:IsPart vu hi)
  (hw:HT.dj items.size 0 lo=0/\HT.dj items.size items.size hi=items.size) (h:Q (.ref t) s):wpAny (model prog w) A (getItem (.ref t) (.ref sl)) Q E s:=by
 obtain⟨os,hos,hcs,hds⟩:=id hs;have hTs:s.TypeIs (.ref sl) "slice" :=⟨os,hos,hcs⟩
 unfold getItem
 try with_reducible refine wpAny_holding ?_
 first | refine wpAny_bind (wpAny_pure ?_) | skip
 refine wpAny_bind (wpAny_sequenceKey ht.typeIs (by decide) ?_);refine wpAny_bind (wpAny_callSpecial?_slot (name:=Str.ofString "__getitem__") ht.typeIs PyProof.Rows.slot_tuple_getitem
  (wpAny_call_entry PyProof.Rows.slot_tuple_getitem ht.typeIs entry_tuple_getitem ?_ (args_tuple_getitem _ _)))
 show wpAny _ _ (Builtin.Tuple.tupleItemsOf (.ref t) >>= _) _ _ s;refine wpAny_bind (tupleItemsOf_ ht ?_);refine wpAny_bind (wpAny_typeOf hTs ?_);rw[if_pos (by decide)];refine wpAny_bind (HT.gj hs pl pu ?_);show wpAny _ _ (if (((HT.dj items.size 0 lo:Nat):Int) == 0&&(1:Int) == 1&&(HT.dj items.size items.size hi - HT.dj items.size 0 lo) == items.size)=true then _ else _) _ _ s;rw[if_pos (by rw[hw.1,hw.2];simp)];refine wpAny_bind (m:=Builtin.Tuple.tupleIsExact _) (wpAny_bind (wpAny_typeOf ht.typeIs (wpAny_pure ?_)));rw[if_pos (by decide)];exact wpAny_bind (wpAny_rule (wpAny_pure ⟨_,rfl,wpAny_pure h⟩))
section
variable{X:Cx}
theorem Dh(hu:X.A.units < cLine):di X (compareOp .Eq) (LO X.K):=by
 intro pins s σ H x y v u Q I rx ry h;obtain⟨p,z,rfl,rfl,hp,hQ⟩:=h;cases(show v=Value.ref p from rx);obtain⟨t,rfl⟩:=ry;have fin:EP X pins σ Q (.bool false) s:=⟨.bl false,H,I,rfl,hQ⟩
 rcases hp with⟨xs,hp⟩ | ⟨xs,hp⟩ | ⟨kvs,hp⟩
 . obtain⟨av,hv,pl,hz⟩:=I.list hp;exact SeqAt.RcAt.list_str z t pl.isList hu _ _ _ _ fin
 . obtain⟨av,hv,pl,hz⟩:=I.tuple hp;exact SeqAt.RcAt.tuple_str z t pl hu _ _ _ _ fin
 . obtain⟨_,_,vs,_,o,es,ep,e,hx,hd,_⟩:=nG I.bx hp;exact tE z t e hx hd hu _ _ _ _ fin
theorem Eg:BV X (Mg X.K):=by
 intro pins s σ H x v vl vu lo hi sl Q I rx hs pl pu h;obtain⟨a,xs,rfl,hx,hw,q⟩:=h;cases rx;obtain⟨av,r,ht,hz⟩:=I.tuple hx;have hlen:av.toArray.size=xs.length:=by rw[List.size_toArray];exact r.length.symm
 refine⟨"tuple",_,PyProof.Rows.slot_tuple_getitem.lookup,ht.typeIs,?_⟩;exact o7 ht hs pl pu (by rw[hlen];exact hw) ⟨.ref a,H,I,rfl,q⟩
theorem DO:di X (binaryOp .Add) (FY X.K):=by
 intro pins s σ H x y v u Q I rx ry h;obtain⟨a,b,ys,rfl,rfl,ha,hb,q⟩:=h;cases(show v=Value.ref a from rx);cases(show u=Value.ref b from ry);obtain⟨av,r1,p1,_⟩:=I.tuple ha;obtain⟨its2,r2,p2,_⟩:=I.tuple hb;have e1:av=[]:=by cases r1;rfl
 subst e1;obtain⟨⟨cls,dd,data,sl⟩,ho,hc,n,hd⟩:=id p1;obtain⟨⟨cls2,dd2,data2,sl2⟩,ho2,hc2,n2,hd2⟩:=id p2;simp only at hc hd hc2 hd2;subst hc hd hc2 hd2;exact concat_meets ⟨_,ho,rfl⟩ ⟨_,ho2,rfl⟩ noFill_tuple_add seq_tuple_add PySem.F.slot_tuple_add PySem.F.entry_tuple_add (PySem.F.args_tuple_add_2 _ _)
  (tuple_addW0 a b _ _ n n2 dd dd2 sl sl2 rfl) ⟨ho,ho2,⟨.ref b,H,I,rfl,q⟩⟩
theorem Fd:di X (binaryOp .Add) FI:=by
 intro pins s σ H x y v u Q I rx ry h;obtain⟨a,b,rfl,rfl,hz,q⟩:=h;obtain⟨t,rfl⟩:=rx;obtain⟨t',rfl⟩:=ry;exact PyProof.Rows.add_str (λt' tk=>⟨.str (a++b),H,I.tok _,⟨_,rfl⟩,q⟩) hz
theorem GS:di X (binaryOp .Add) (λx y H Q=>(BX λi j=> .int (i+j)) x y H Q\/(M9 x y H Q\/(Fm X.K x y H Q\/(FY X.K x y H Q\/FI x y H Q)))):=GG.or (KC.or (Em.or (DO.or Fd)))
theorem Qq:BV X (λx lo hi H Q=>Mb X.K x lo hi H Q\/(L9 X.K x lo hi H Q\/Mg X.K x lo hi H Q)):=Et.or (H9.or Eg)
end
noncomputable def vV{α :Type}(c:Nat->Nat->Bool):KasT α -> α
 | .ret a=>a
 | .ask i j k=>vV c (k (c i j))
noncomputable def By{α :Type}(n:Nat)(c:Nat->Nat->Bool):KasT α ->Bool
 | .ret _=>true
 | .ask i j k=>decide (i < n)&&decide (j < n)&& !decide (i=j)&&By n c (k (c i j))
theorem rO{α :Type}{cmp:Nat->Nat->(Bool->Shared->Prop)->Shared->Prop}{n:Nat}{c:Nat->Nat->Bool}{s:Shared}(hc: ∀ i j C,i < n->j < n->i≠j->C (c i j) s->cmp i j C s){Q: α ->Shared->Prop} :
  ∀ t:KasT α,By n c t=true->Q (vV c t) s->t.kasWp cmp Q s
 | .ret a,_,q=>q
 | .ask i j k,h,q=>by
  simp only[By,Bool.and_eq_true,decide_eq_true_eq,Bool.not_eq_true',decide_eq_false_iff_not] at h;exact hc i j _ h.1.1.1 h.1.1.2 h.1.2 (rO hc (k (c i j)) h.2 q)
noncomputable def gh{α :Type}(n:Nat)(c:Nat->Nat->Bool)(t:KasT α)(Q: α ->Prop):Prop:=By n c t=true/\Q (vV c t)
theorem gh.ret{α :Type}{n:Nat}{c:Nat->Nat->Bool}{a: α}{Q: α ->Prop}(h:Q a):gh n c (.ret a) Q:=⟨rfl,h⟩
theorem gh.ask{α :Type}{n:Nat}{c:Nat->Nat->Bool}{i j:Nat}{k:Bool->KasT α}{Q: α ->Prop}(hi:i < n)(hj:j < n)(hij:i≠j)(h:gh n c (k (c i j)) Q):gh n c (.ask i j k) Q :=
 ⟨by simp only[By,hi,hj,hij,h.1,decide_true,decide_false,Bool.not_false,Bool.and_self],h.2⟩
theorem gh.bind{α β :Type}{n:Nat}{c:Nat->Nat->Bool}{f: α ->KasT β}{Q: β ->Prop}: ∀{t:KasT α},gh n c t (λa=>gh n c (f a) Q)->gh n c (t.bind f) Q
 | .ret a,h=>h.2
 | .ask i j k,h=>by
  have e:=h.1;simp only[By,Bool.and_eq_true,decide_eq_true_eq,Bool.not_eq_true',decide_eq_false_iff_not] at e;exact gh.ask e.1.1.1 e.1.1.2 e.1.2 (gh.bind (t:=k (c i j)) ⟨e.2,h.2⟩)
theorem gh.mono{α :Type}{n:Nat}{c:Nat->Nat->Bool}{t:KasT α}{Q Q': α ->Prop}(h:gh n c t Q)(f: ∀ a,Q a->Q' a):gh n c t Q':=⟨h.1,f _ h.2⟩
structure fK(n:Nat)(p:Array Nat):Prop where
 perm:p.toList.Perm (List.range n)
theorem fK.size{n:Nat}{p:Array Nat}(h:fK n p):p.size=n:=by simpa using h.perm.length_eq
theorem fK.lt{n:Nat}{p:Array Nat}(h:fK n p){i:Nat}(hi:i < n):p.getD i 0 < n:=by
 have hi':i < p.size:=h.size ▸ hi;have:p.getD i 0∈p.toList:=by
  rw[Array.getD_eq_getD_getElem?,Array.getElem?_eq_getElem hi'];exact Array.getElem_mem_toList hi'
 exact List.mem_range.mp (h.perm.mem_iff.mp this)
theorem fK.ne{n:Nat}{p:Array Nat}(h:fK n p){i j:Nat}(hi:i < n)(hj:j < n)(hij:i≠j):p.getD i 0≠p.getD j 0:=λe=>by
 have hi':i < p.size:=h.size ▸ hi;have hj':j < p.size:=h.size ▸ hj;have nd:p.toList.Nodup:=h.perm.nodup_iff.mpr List.nodup_range;rw[Array.getD_eq_getD_getElem?,Array.getD_eq_getD_getElem?,Array.getElem?_eq_getElem hi',Array.getElem?_eq_getElem hj'] at e;exact hij ((List.getElem?_inj (by simpa using hi') nd).mp (by rw[Array.getElem?_toList,Array.getElem?_toList,Array.getElem?_eq_getElem hi',Array.getElem?_eq_getElem hj'];exact congrArg some e))
theorem fK.of{n:Nat}{p q:Array Nat}(h:fK n p)(pm:q.Perm p):fK n q:=⟨(Array.perm_iff_toList_perm.mp pm).trans h.perm⟩
theorem uF(n:Nat):fK n (List.toArray (List.range n)):=⟨List.Perm.refl _⟩
section
variable{n:Nat}{r:Nat->Nat}
noncomputable def rk(r:Nat->Nat)(p:Array Nat)(i:Nat):Nat:=r (p.getD i 0)
noncomputable def oU(r:Nat->Nat)(p:Array Nat)(k:Nat):Prop:= ∀ i j,i < j->j < k->rk r p i < rk r p j
noncomputable def mJ(r:Nat->Nat)(p:Array Nat)(k:Nat):Prop:= ∀ i j,i < j->j < k->rk r p j < rk r p i
noncomputable def cN(r:Nat->Nat)(i j:Nat):Bool:=decide (r i < r j)
noncomputable def qI(n:Nat)(r:Nat->Nat):Prop:= ∀ i j,i < n->j < n->r i=r j->i=j
theorem Bt{p:Array Nat}(hr:qI n r)(h:fK n p){i j:Nat}(hi:i < n)(hj:j < n)(hij:i≠j):rk r p i≠rk r p j:=λe=>h.ne hi hj hij (hr _ _ (h.lt hi) (h.lt hj) e)
theorem DX{p:Array Nat}{k:Nat}(h:oU r p k)(hk:1<=k)(x:rk r p (k - 1) < rk r p k):oU r p (k+1):=λi j hij hj=>by
 rcases Nat.lt_or_ge j k with c | c
 . exact h i j hij c
 . have:j=k:=by omega
   subst this;rcases Nat.lt_or_ge i (j - 1) with d | d
   . exact Nat.lt_trans (h i (j - 1) d (by omega)) x
   . have:i=j - 1:=by omega
     subst this;exact x
theorem pM{p:Array Nat}{k:Nat}(h:mJ r p k)(hk:1<=k)(x:rk r p k < rk r p (k - 1)):mJ r p (k+1):=λi j hij hj=>by
 rcases Nat.lt_or_ge j k with c | c
 . exact h i j hij c
 . have:j=k:=by omega
   subst this;rcases Nat.lt_or_ge i (j - 1) with d | d
   . exact Nat.lt_trans x (h i (j - 1) d (by omega))
   . have:i=j - 1:=by omega
     subst this;exact x
theorem uv{p:Array Nat}(hr:qI n r)(h:fK n p): ∀(f m:Nat),1<=m->m+f<=n->oU r p m ->
  gh n (cN r) (kas_asc p f m) λm'=>m<=m'/\m'<=m+f/\oU r p m'/\(m' < m+f->rk r p m' < rk r p (m' - 1))
 | 0,m,h1,hm,u=>gh.ret ⟨Nat.le_refl _,Nat.le_refl _,u,λx=>absurd x (Nat.lt_irrefl _)⟩
 | f+1,m,h1,hm,u=>by
  refine gh.ask (h.lt (by omega)) (h.lt (by omega)) (h.ne (by omega) (by omega) (by omega)) ?_;have ne:=Bt hr h (i:=m) (j:=m - 1) (by omega) (by omega) (by omega);by_cases c:rk r p m < rk r p (m - 1)
  . have e:cN r (p.getD m 0) (p.getD (m - 1) 0)=true:=decide_eq_true c;rw[e,if_pos rfl];exact gh.ret ⟨Nat.le_refl _,by omega,u,λ_=>c⟩
  . have e:cN r (p.getD m 0) (p.getD (m - 1) 0)=false:=decide_eq_false c;rw[e,if_neg (by simp)];refine(uv hr h f (m+1) (by omega) (by omega) (DX u h1 (by omega))).mono λm' x=>⟨by omega,by omega,x.2.2.1,λy=>x.2.2.2 (by omega)⟩
theorem wA{p:Array Nat}(hr:qI n r)(h:fK n p): ∀(f m:Nat),1<=m->m+f<=n->mJ r p m ->
  gh n (cN r) (kas_desc f p m 0) λt=>t.1=p/\t.2.2=0/\m<=t.2.1/\t.2.1<=m+f/\mJ r p t.2.1
 | 0,m,h1,hm,u=>gh.ret ⟨rfl,rfl,Nat.le_refl _,Nat.le_refl _,u⟩
 | f+1,m,h1,hm,u=>by
  refine gh.ask (h.lt (by omega)) (h.lt (by omega)) (h.ne (by omega) (by omega) (by omega)) ?_;have ne:=Bt hr h (i:=m) (j:=m - 1) (by omega) (by omega) (by omega);by_cases c:rk r p m < rk r p (m - 1)
  . have e:cN r (p.getD m 0) (p.getD (m - 1) 0)=true:=decide_eq_true c;rw[e,if_pos rfl,if_neg (by omega)];refine(wA hr h f (m+1) (by omega) (by omega) (pM u h1 c)).mono λt x=>⟨x.1,x.2.1,by omega,by omega,x.2.2.2.2⟩
  . have e:cN r (p.getD m 0) (p.getD (m - 1) 0)=false:=decide_eq_false c;rw[e,if_neg (by simp)];refine gh.ask (h.lt (by omega)) (h.lt (by omega)) (h.ne (by omega) (by omega) (by omega)) ?_;have e2:cN r (p.getD (m - 1) 0) (p.getD m 0)=true:=decide_eq_true (show rk r p (m - 1) < rk r p m by omega);rw[e2,if_pos rfl];exact gh.ret ⟨rfl,rfl,Nat.le_refl _,Nat.le_add_right _ _,u⟩
theorem yO{p:Array Nat}{m:Nat}(hm:m<=p.size)(k:Nat):rk r (kas_rev p 0 m) k=if k < m then rk r p (m - 1 - k) else rk r p k:=by
 unfold rk kas_rev;rw[Array.getD_eq_getD_getElem?,getElem?_mirror_all hm];by_cases c:k < m
 . rw[if_pos ⟨Nat.zero_le _,c⟩,if_pos c,Array.getD_eq_getD_getElem?,Nat.zero_add]
 . rw[if_neg (λx=>c x.2),if_neg c,Array.getD_eq_getD_getElem?]
theorem zB{p:Array Nat}(hr:qI n r)(h:fK n p){m:Nat}(h1:1<=m)(hm:m<=n)(u:mJ r p m):gh n (cN r) (kas_tail3 m n p) λt=>fK n t.2/\1<=t.1/\t.1<=n/\oU r t.2 t.1:=by
 have h':fK n (kas_rev p 0 m):=h.of (mirror_perm _ _ _ _);refine gh.bind ((uv hr h' (n - m) m h1 (by omega) λi j hij hj=>?_).mono λm' x=>gh.ret ⟨h',by omega,by omega,x.2.2.1⟩);rw[yO (by rw[h.size];exact hm),yO (by rw[h.size];exact hm),if_pos (by omega),if_pos hj];exact u _ _ (by omega) (by omega)
theorem Ac{p:Array Nat}(hr:qI n r)(h:fK n p)(h1:1<=n):gh n (cN r) (kas_count n p) λt=>fK n t.2/\1<=t.1/\t.1<=n/\oU r t.2 t.1:=by
 refine gh.bind ((uv hr h (n - 1) 1 (Nat.le_refl _) (by omega) λi j hij hj=>by omega).mono λm x=>?_);obtain⟨x1,x2,x3,x4⟩:=x;by_cases c:m=n
 . rw[if_pos (by simpa using c)];exact gh.ret ⟨h,x1,by omega,x3⟩
 . rw[if_neg (by simpa using c)];by_cases c2:m > 1
   . rw[if_pos c2];refine gh.ask (h.lt (by omega)) (h.lt (by omega)) (h.ne (by omega) (by omega) (by omega)) ?_;have e2:cN r (p.getD 0 0) (p.getD (m - 1) 0)=true:=decide_eq_true (x3 0 (m - 1) (by omega) (by omega));rw[e2,if_pos rfl];exact gh.ret ⟨h,x1,by omega,x3⟩
   . rw[if_neg c2];have:m=1:=by omega
     subst this;refine gh.bind ((wA hr h (n - (1+1)) (1+1) (by omega) (by omega) (pM (λi j hij hj=>by omega) (Nat.le_refl _) (x4 (by omega)))).mono λt y=>?_);obtain⟨y1,y2,y3,y4,y5⟩:=y;rw[if_neg (by omega),y1];exact zB hr h (by omega) (by omega) y5
theorem nQ{p:Array Nat}(hr:qI n r)(h:fK n p){k:Nat}(hk:k < n)(u:oU r p k): ∀(f l m:Nat),l<=m->m<=k->m - l<=f->(∀ i,i < l->rk r p i < rk r p k)->(∀ i,m<=i->i < k->rk r p k < rk r p i) ->
  gh n (cN r) (kas_place p k f l m) λt=>t<=k/\(∀ i,i < t->rk r p i < rk r p k)/\(∀ i,t<=i->i < k->rk r p k < rk r p i)
 | 0,l,m,h1,h2,h3,a,b=>gh.ret ⟨by omega,a,λi hi hik=>b i (by omega) hik⟩
 | f+1,l,m,h1,h2,h3,a,b=>by
  unfold kas_place;by_cases c:l ≥ m
  . rw[if_pos c];exact gh.ret ⟨by omega,a,λi hi hik=>b i (by omega) hik⟩
  . rw[if_neg c];refine gh.ask (h.lt (by omega)) (h.lt (by omega)) (h.ne (by omega) (by omega) (by omega)) ?_;have ne:=Bt hr h (i:=k) (j:=(l+m) / 2) (by omega) (by omega) (by omega);by_cases d:rk r p k < rk r p ((l+m) / 2)
    . have e:cN r (p.getD k 0) (p.getD ((l+m) / 2) 0)=true:=decide_eq_true d;rw[e,if_pos rfl];refine nQ hr h hk u f l ((l+m) / 2) (by omega) (by omega) (by omega) a λi hi hik=>?_;rcases Nat.lt_or_ge ((l+m) / 2) i with z | z
      . exact Nat.lt_trans d (u _ _ z hik)
      . have:i=(l+m) / 2:=by omega
        rw[this];exact d
    . have e:cN r (p.getD k 0) (p.getD ((l+m) / 2) 0)=false:=decide_eq_false d;rw[e,if_neg (by simp)];refine nQ hr h hk u f ((l+m) / 2+1) m (by omega) (by omega) (by omega) (λi hi=>?_) b;have d':rk r p ((l+m) / 2) < rk r p k:=by omega
      rcases Nat.lt_or_ge i ((l+m) / 2) with z | z
      . exact Nat.lt_trans (u _ _ z (by omega)) d'
      . have:i=(l+m) / 2:=by omega
        rw[this];exact d'
theorem pJ{p:Array Nat}{k d:Nat}(hk:k < p.size)(hd:d<=k)(i:Nat):rk r (bubble p k d) i=if i=k - d then rk r p k else if k - d < i/\i<=k then rk r p (i - 1) else rk r p i:=by
 have g: ∀(q:Array Nat)(j:Nat),rk r q j=r (q[j]?.getD 0):=λq j=>by unfold rk;rw[Array.getD_eq_getD_getElem?]
 rw[g,g,g,g,getElem?_bubble hk d hd]
 repeat' split
 all_goals rfl
theorem yE(hr:qI n r): ∀(f:Nat)(p:Array Nat)(k:Nat),fK n p->k+f=n->oU r p k->gh n (cN r) (kas_bin f p k) λq=>fK n q/\oU r q n
 | 0,p,k,h,e,u=>gh.ret ⟨h,(show k=n from e) ▸ u⟩
 | f+1,p,k,h,e,u=>by
  refine gh.bind ((nQ hr h (by omega) u k 0 k (by omega) (by omega) (by omega) (λi hi=>by omega) (λi h1 h2=>by omega)).mono λl x=>?_);obtain⟨x1,x2,x3⟩:=x;refine yE hr f _ (k+1) (h.of (bubble_perm _ _ _)) (by omega) λi j hij hj=>?_;have hs:k < p.size:=by rw[h.size];omega
  rw[pJ hs (by omega),pJ hs (by omega)]
  repeat' split
  all_goals first | (exfalso;omega) | exact u _ _ (by omega) (by omega) | exact x2 _ (by omega) | exact x3 _ (by omega) (by omega)
theorem Ei(hr:qI n r)(h1:1<=n):gh n (cN r) (kas_sort n) λq=>fK n q/\oU r q n:=by
 refine gh.bind ((Ac hr (uF n) h1).mono λt x=>?_);obtain⟨x1,x2,x3,x4⟩:=x;by_cases c:t.1 < n
 . rw[if_pos c];have:max t.1 1=t.1:=by omega
   rw[this];exact yE hr _ _ _ x1 (by omega) x4
 . rw[if_neg c];have:t.1=n:=by omega
   exact gh.ret ⟨x1,this ▸ x4⟩
end
theorem rQ{α :Type}{n:Nat}{c c':Nat->Nat->Bool}(h: ∀ i j,i < n->j < n->c i j=c' i j): ∀ t:KasT α,By n c' t=true->By n c t=true/\vV c t=vV c' t
 | .ret a,_=>⟨rfl,rfl⟩
 | .ask i j k,e=>by
  simp only[By,Bool.and_eq_true,decide_eq_true_eq,Bool.not_eq_true',decide_eq_false_iff_not] at e;have hc:=h i j e.1.1.1 e.1.1.2;have:=rQ h (k (c' i j)) e.2;simp only[By,vV,Bool.and_eq_true,decide_eq_true_eq,Bool.not_eq_true',decide_eq_false_iff_not];rw[hc];exact⟨⟨e.1,this.1⟩,this.2⟩
noncomputable def hI(a b:Str):Prop:=a.cps.toList < b.cps.toList
instance (a b:Str):Decidable (hI a b):=inferInstanceAs (Decidable (a.cps.toList < b.cps.toList))
theorem gY(a:Str): ¬ hI a a:=List.lt_irrefl _
theorem iX{a b c:Str}(h1:hI a b)(h2:hI b c):hI a c:=List.lt_trans h1 h2
theorem iP{a b:Str}(h:hI a b): ¬ hI b a:=λz=>gY a (iX h z)
theorem DQ{a b:Str}(h:a.cps.toList=b.cps.toList):a=b:=by
 cases a;cases b;simp only at h;rw[Array.toList_inj.mp h]
theorem kE{a b:Str}(h:a≠b):hI a b\/hI b a:=by
 by_cases h1:hI a b
 . exact .inl h1
 . by_cases h2:hI b a
   . exact .inr h2
   . exact absurd (DQ (List.le_antisymm (List.not_lt.mp h2) (List.not_lt.mp h1))) h
noncomputable def kq(xs:List Str)(x:Str):Nat:=(xs.filter λy=>decide (hI y x)).length
theorem pS{xs:List Str}{x y:Str}(hx:x∈xs)(h:hI x y):kq xs x < kq xs y:=by
 unfold kq;have sub: ∀ l:List Str,(l.filter λz=>decide (hI z x)).length<=(l.filter λz=>decide (hI z y)).length:=λl=>by
  induction l with
  | nil=>exact Nat.le_refl _
  | cons z r ih =>
   by_cases h1:hI z x
   . rw[List.filter_cons_of_pos (by simpa using h1),List.filter_cons_of_pos (by simpa using iX h1 h)];simpa using ih
   . rw[List.filter_cons_of_neg (by simpa using h1)];by_cases h2:hI z y
     . rw[List.filter_cons_of_pos (by simpa using h2)];exact Nat.le_succ_of_le ih
     . rw[List.filter_cons_of_neg (by simpa using h2)];exact ih
 induction xs with
 | nil=>cases hx
 | cons z r ih =>
  rcases List.mem_cons.mp hx with rfl | hr
  . rw[List.filter_cons_of_neg (by simpa using gY x),List.filter_cons_of_pos (by simpa using h)];exact Nat.lt_succ_of_le (sub r)
  . by_cases h1:hI z x
    . rw[List.filter_cons_of_pos (by simpa using h1),List.filter_cons_of_pos (by simpa using iX h1 h)];simpa using ih hr
    . rw[List.filter_cons_of_neg (by simpa using h1)];by_cases h2:hI z y
      . rw[List.filter_cons_of_pos (by simpa using h2)];exact Nat.lt_succ_of_lt (ih hr)
      . rw[List.filter_cons_of_neg (by simpa using h2)];exact ih hr
theorem AW{xs:List Str}{x y:Str}(hx:x∈xs)(hy:y∈xs):kq xs x < kq xs y↔hI x y:=by
 refine⟨λh=>?_,pS hx⟩;by_cases e:x=y
 . subst e;exact absurd h (Nat.lt_irrefl _)
 . rcases kE e with z | z
   . exact z
   . exact absurd (pS hy z) (Nat.lt_asymm h)
noncomputable def cS(xs:List Str)(i j:Nat):Bool:=decide (hI (xs.getD i "") (xs.getD j ""))
theorem getD_mem{xs:List Str}{i:Nat}(h:i < xs.length):xs.getD i "" ∈xs:=by
 rw[List.getD_eq_getElem?_getD,List.getElem?_eq_getElem h];exact List.getElem_mem h
theorem t6{xs:List Str}(h1:1<=xs.length)(nd:xs.Nodup) :
  By xs.length (cS xs) (kas_sort xs.length)=true/\(vV (cS xs) (kas_sort xs.length)).toList.Perm (List.range xs.length)/\((vV (cS xs) (kas_sort xs.length)).toList.map λi=>xs.getD i "").Pairwise hI:=by
 have rkI: ∀ i j,i < xs.length->j < xs.length->(kq xs (xs.getD i "") < kq xs (xs.getD j "")↔hI (xs.getD i "") (xs.getD j "")):=λi j hi hj=>AW (getD_mem hi) (getD_mem hj);have hr:qI xs.length λi=>kq xs (xs.getD i ""):=λi j hi hj e=>by
  have a:=rkI i j hi hj;have b:=rkI j i hj hi;have e':xs.getD i "" =xs.getD j "" :=Decidable.byContradiction λne=>by
   rcases kE ne with z | z
   . have:=a.mpr z;simp only at e;omega
   . have:=b.mpr z;simp only at e;omega
  rw[List.getD_eq_getElem?_getD,List.getD_eq_getElem?_getD,List.getElem?_eq_getElem hi,List.getElem?_eq_getElem hj] at e';exact(List.getElem?_inj hi nd).mp (by rw[List.getElem?_eq_getElem hi,List.getElem?_eq_getElem hj];exact congrArg some e')
 have ok:=Ei hr h1;have al: ∀ i j,i < xs.length->j < xs.length->cS xs i j=cN (λi=>kq xs (xs.getD i "")) i j:=λi j hi hj=>by
  unfold cS cN;rw[decide_eq_decide];exact(rkI i j hi hj).symm
 have ea:=rQ al (kas_sort xs.length) ok.1;rw[ea.2];have sh:=ok.2.1;refine⟨ea.1,sh.perm,?_⟩;rw[List.pairwise_map,List.pairwise_iff_getElem];intro i j hi hj hij;have hj':j < xs.length:=by rw[<- sh.size];simpa using hj
 have:=ok.2.2 i j hij hj';unfold rk at this;have:=(rkI _ _ (sh.lt (by omega)) (sh.lt hj')).mp this;rw[Array.getD_eq_getD_getElem?,Array.getD_eq_getD_getElem?,Array.getElem?_eq_getElem (by simpa using hi),Array.getElem?_eq_getElem (by simpa using hj)] at this;simpa using this
section
variable{prog:Program}{w:World}{A:Around}{E:Value->Shared->Prop}{s:Shared}
noncomputable def dw(h:Heap)(a:Addr)(vs:List Value):Heap:=((h.update a (Obj.mapSeq λ_=>(#[]:Array Value))).push (seqObj "tuple" vs.toArray 0)).push (seqObj "list" #[] 0)
theorem oD{h:Heap}{a b:Addr}{vs:List Value}(hb:b < h.objs.size):(dw h a vs).get? b=(h.update a (Obj.mapSeq λ_=>(#[]:Array Value))).get? b :=
 (Heap.get?_push_ne _ _ _ (Nat.ne_of_lt (Nat.lt_of_lt_of_eq (Nat.lt_succ_of_lt hb) ((size_push' _ _).trans (congrArg (· +1) (Heap.size_update _ _ _))).symm))).trans
  (Heap.get?_push_ne _ _ _ (Nat.ne_of_lt (Nat.lt_of_lt_of_eq hb (Heap.size_update _ _ _).symm)))
theorem sU{h:Heap}{a b:Addr}{vs:List Value}{o:Obj}(hb:b≠a)(e:h.get? b=some o):(dw h a vs).get? b=some o :=
 (oD (Heap.lt_size e)).trans ((Heap.get?_update_ne _ _ _ _ hb).trans e)
theorem kr{vs:List Value}(h:vs.length < 64):vs.length<=sizeLine:=Nat.le_trans (Nat.le_of_lt h) (by decide)
theorem oQ{a:Addr}{vs:List Value}{n:Nat}{P:PySem.Fin->Shared->Prop}{κ :SortKind}{G:Array Nat->Prop}(ho:s.heap.get? a=some (seqObj "list" vs.toArray n))(h64:vs.length < 64)
  (hk:2<=vs.length-> ∀ Q':SortKind->Shared->Prop,Q' κ { s with heap:=dw s.heap a vs }->wpAny (model prog w) A (keyKind' vs.toArray) Q' E { s with heap:=dw s.heap a vs })
  (ha:2<=vs.length-> ∀ Q':Array Nat->Shared->Prop,(∀ p,G p->Q' p { s with heap:=dw s.heap a vs })->(kas_sort vs.length).kasWp (kas_ask prog w A κ vs) Q' { s with heap:=dw s.heap a vs })
  (h0:vs.length < 2->P (.done (.ret .none)) { s with heap:=sortedHeap s.heap a vs vs.toArray })
  (h: ∀ p:Array Nat,p.size=vs.length->G p->P (.done (.ret .none)) { s with heap:=sortedHeap s.heap a vs (p.toList.map λi=>vs.getD i Value.none).toArray }):wpAny (model prog w) A (Builtin.«list.sort» ⟨[.ref a],[]⟩) P E s:=by
 obtain⟨ep,g1⟩: ∃ k,(s.heap.update a (Obj.mapSeq λ_=>(#[]:Array Value))).get? a=some (seqObj "list" #[] k):=⟨_,get?_update_seq ho λ_=> #[]⟩
 have g2:(dw s.heap a vs).get? a=some (seqObj "list" #[] ep):=(oD (Heap.lt_size ho)).trans g1;have z:=List.size_toArray (as:=vs);rw[list_sort_plain];refine wpAny_bind (listItems_at ho rfl (wpAny_bind (listUpdate_at ho rfl (wpAny_bind (seqEpoch_at g1 rfl (wpAny_bind (wpAny_newTuple (wpAny_bind (wpAny_newList (wpAny_holding ?_) (Nat.zero_le _))) (kr h64))))) (z ▸ kr h64) (Nat.zero_le _))));show wpAny (model prog w) A _ P E { s with heap:=dw s.heap a vs };dsimp only;have last: ∀ out:Array Value,out.size<=sizeLine->P (.done (.ret .none)) { s with heap:=sortedHeap s.heap a vs out }->P (.done (.ret .none)) { s with heap:=(dw s.heap a vs).update a (Obj.mapSeq λ_=>out) }:=λ_ _ q=>q;rcases Nat.lt_or_ge vs.toArray.size 2 with c | c
 . rw[if_pos c,if_pos c];have e:(arrOf (SortSt.mk' general' (vs.toArray.zip vs.toArray) #[] 7 none)).map (·.2)=vs.toArray:=by
    apply Array.toList_inj.mp;show((vs.toArray.zip vs.toArray).map (·.2)).toList=_
    rw[Array.toList_map,Array.toList_zip];exact List.map_snd_zip (Nat.le_refl _)
   refine wpAny_bind (m:=pure general') (wpAny_pure ?_);rw[StateT.run_pure];refine wpAny_bind (wpAny_pure (wpAny_bind (seqEpoch_at g2 rfl (wpAny_bind (listUpdate_at g2 rfl ?_ (Nat.zero_le _) (hsz2:=by rw[e,z];exact Nat.le_succ_of_le (kr h64)))))));rw[if_neg (by simp)];refine wpAny_pure ?_;rw[e];exact last _ (by rw[z];exact kr h64) (h0 (z ▸ c))
 . rw[if_neg (Nat.not_lt.mpr c),if_neg (Nat.not_lt.mpr c)];have c':2<=vs.length:=z ▸ c;have run:=kat_run (E:=E) (ks:=vs) (vs:=vs) (Q:=λst u=>u={ s with heap:=dw s.heap a vs }/\ ∃ p:Array Nat,p.size=vs.length/\arrOf st=p.map (kas_item (vs.toArray.zip vs.toArray))/\failedOf st=none/\G p)
    (G:=λp u=>u={ s with heap:=dw s.heap a vs }/\G p) rfl c' h64 (λp st u b1 b2 b3 b4=>⟨b4.1,p,b1,b2,b3,b4.2⟩) (ha c' _ λp g=>⟨rfl,g⟩)
   refine wpAny_bind (hk c' _ (wpAny_bind (wpAny_mono run (λr u x=>?_) λ_ _ x=>x)));obtain⟨⟨⟩,st⟩:=r;obtain⟨rfl,p,hp,har,hf,g⟩:=x;have el:(List.toArray (p.toList.map λi=>vs.getD i Value.none)).size<=sizeLine:=by rw[List.size_toArray,List.length_map,Array.length_toList,hp];exact kr h64
   dsimp only;rw[kat_snds rfl har,hf];refine wpAny_bind (seqEpoch_at g2 rfl (wpAny_bind (listUpdate_at g2 rfl ?_ (Nat.zero_le _) (Nat.le_succ_of_le el))));rw[if_neg (by simp)];exact wpAny_pure (last _ el (h p hp g))
abbrev j4(h:Heap)(vs:List Value):Heap:=((h.push (seqObj "list" #[] 0)).update h.objs.size (Obj.mapSeq (· ++vs.toArray))).push (seqObj "list" vs.toArray 0)
theorem eV(h:Heap)(vs:List Value):((h.push (seqObj "list" #[] 0)).update h.objs.size (Obj.mapSeq (· ++vs.toArray))).objs.size=h.objs.size+1:=(Heap.size_update _ _ _).trans (size_push' _ _)
theorem iA(h:Heap)(vs:List Value):(j4 h vs).get? (h.objs.size+1)=some (seqObj "list" vs.toArray 0):=(eV h vs) ▸ Heap.get?_push_size _ rfl
theorem tV{h:Heap}{vs:List Value}{b:Addr}{o:Obj}(e:h.get? b=some o):(j4 h vs).get? b=some o:=by
 have l:=Heap.lt_size e;have z:=eV h vs;exact(Heap.get?_push_ne _ _ _ (Nat.ne_of_lt (Nat.lt_of_lt_of_eq (Nat.lt_succ_of_lt l) z.symm))).trans ((Heap.get?_update_ne _ _ _ _ (Nat.ne_of_lt l)).trans ((Heap.get?_push_ne _ _ _ (Nat.ne_of_lt l)).trans e))
theorem vf{l:Addr}{vs:List Value}{Q:Value->Shared->Prop}{κ :SortKind}{G:Array Nat->Prop}(hl:s.heap.IsList l vs.toArray)(h64:vs.length < 64)
  (hk: ∀ h':Heap,(∀ b o,s.heap.get? b=some o->h'.get? b=some o)->2<=vs.length-> ∀ Q':SortKind->Shared->Prop,Q' κ { s with heap:=h' }->wpAny (model prog w) A.in1.in1 (keyKind' vs.toArray) Q' E { s with heap:=h' })
  (ha: ∀ h':Heap,(∀ b o,s.heap.get? b=some o->h'.get? b=some o)->2<=vs.length-> ∀ Q':Array Nat->Shared->Prop,(∀ p,G p->Q' p { s with heap:=h' })->(kas_sort vs.length).kasWp (kas_ask prog w A.in1.in1 κ vs) Q' { s with heap:=h' })
  (h0:vs.length < 2->Q (.ref (s.heap.objs.size+1)) { s with heap:=sortedAll s.heap vs vs.toArray })
  (h: ∀ p:Array Nat,p.size=vs.length->G p->Q (.ref (s.heap.objs.size+1)) { s with heap:=sortedAll s.heap vs (p.toList.map λi=>vs.getD i Value.none).toArray }):wpAny (model prog w) A (call (.builtin "sorted") [.ref l]) Q E s:=by
 have kp: ∀ b o,s.heap.get? b=some o->(dw (j4 s.heap vs) (s.heap.objs.size+1) vs).get? b=some o:=λb o e=>sU (Nat.ne_of_lt (Nat.lt_succ_of_lt (Heap.lt_size e))) (tV e);refine Calls.call_function_entry kind_sorted plain_sorted entry_sorted (args_sorted1 (.ref l)) ?_;unfold Builtin.«sorted»;refine wpAny_bind (m:=checkCount "sorted" 1 1 [Value.ref l].length) (wpAny_pure (wpAny_bind (collect_list hl (wpAny_bind (wpAny_newList ?_ (kr h64))) (kr h64))));show wpAny _ _ _ _ _ { s with heap:=j4 s.heap vs };rw [eV];refine wpAny_bind (wpAny_holding (wpAny_call_entry slot_list_sort ⟨_,iA s.heap vs,rfl⟩ entry_list_sort (oQ (G:=G) (κ := κ) (iA s.heap vs) h64 (hk _ kp) (ha _ kp) (λc=>⟨_,rfl,?_⟩) λp hp g=>⟨_,rfl,?_⟩) (args_list_sort (.ref (s.heap.objs.size+1)))))
 . exact wpAny_pure ⟨_,rfl,h0 c⟩
 . exact wpAny_pure ⟨_,rfl,h p hp g⟩
end
noncomputable def jf(H:Hp)(y:V)(q:Str × Int):Prop:= ∃ b,y= .ref b/\H b=some (.tup [.str q.1,.int q.2])
theorem jf.v{H:Hp}{y:V}{q:Str × Int}(h:jf H y q):pD H y (.inr q.1,.int q.2):=h
theorem jf.same{H H':Hp}{y:V}{q:Str × Int}(h:jf H y q)(s:i4 H H'):jf H' y q:=let ⟨b,e,h⟩:=h;⟨b,e,s _ _ h⟩
noncomputable def DZ(h:Heap)(v:Value)(q:Str × Int):Prop:= ∃ b o k t u,v= .ref b/\h.get? b=some o/\o.cls= .type "tuple" /\o.data= .seq #[.str q.1 t,.int q.2 u] k
theorem DZ.kept{h h':Heap}{v:Value}{q:Str × Int}(k: ∀ b o,h.get? b=some o->h'.get? b=some o)(x:DZ h v q):DZ h' v q:=let ⟨b,o,n,t,u,e1,e2,e3,e4⟩:=x;⟨b,o,n,t,u,e1,k _ _ e2,e3,e4⟩
theorem tf{P:Program}{w:World}{H:Hp}{h:Heap}(ok:ji P w H h): ∀{ys:List V}{ps:List (Str × Int)}{av:List Value},Paired (jf H) ys ps->Vals ys av->Paired (DZ h) av ps
 | _,_,_,.nil,.nil=> .nil
 | _,_,_,.cons hp hr,.cons hv hrv=>by
  obtain⟨b,rfl,hb⟩:=hp;obtain⟨_,its0,r0,o,e1,e2,n,e3,_⟩:=(show bg P w H h b (.tup [.str _,.int _]) from ok b _ hb)
  obtain⟨u1,u2,rfl,⟨t1,rfl⟩,⟨t2,rfl⟩⟩:=vals2 r0;cases(show _=Value.ref b from hv);exact .cons ⟨b,o,n,t1,t2,rfl,e1,e2,e3⟩ (tf ok hr hrv)
theorem qF{h:Heap}: ∀{vs:List Value}{ps:List (Str × Int)},Paired (DZ h) vs ps-> ∀{i:Nat},i < vs.length-> ∃ q,ps[i]?=some q/\DZ h (vs.getD i Value.none) q
 | _,_,.nil,i,hi=>absurd hi (Nat.not_lt_zero _)
 | _,_,.cons hp hr,0,_=>⟨_,rfl,hp⟩
 | _,_,.cons hp hr,i+1,hi=>by
  obtain ⟨q,e,a⟩:=qF hr (i:=i) (by simpa using hi);exact ⟨q,by simpa using e,by simpa using a⟩
theorem su {h : Heap} : ∀ {vs : List Value} {ps : List (Str × Int)}, Paired (DZ h) vs ps -> ∃ fs, KatTups h vs fs /\ fs.length = vs.length /\ ∀ v ∈ fs, ∃ x t, v = Value.str x t
  | _, _, .nil => ⟨[], .nil, rfl, λv m => nomatch m⟩
  | _, _, .cons hp hr => by
    obtain ⟨fs, k, l, st⟩ := su hr;obtain ⟨b, o, n, t, u, rfl, e1, e2, e3⟩ := hp
    exact ⟨_, .cons e1 e2 e3 rfl k, by simp [l], fun v m => by rcases List.mem_cons.mp m with rfl | m; · exact ⟨_, _, rfl⟩
                                                               . exact st v m⟩
section
variable {prog:Program} {w:World} {A:Around} {E:Value->Shared->Prop} {s:Shared}
theorem xO{vs:List Value}{ps:List (Str × Int)}(hp:Paired (DZ s.heap) vs ps)(nd:(ps.map (·.1)).Nodup){i j:Nat}{C:Bool->Shared->Prop}(hi:i < vs.length)(hj:j < vs.length)(hij:i≠j)(h:C (cS (ps.map (·.1)) i j) s):kas_ask prog w A (tuples' true) vs i j C s:=by
 obtain⟨q1,f1,b1,o1,n1,t1,u1,e1,g1,c1,d1⟩:=qF hp hi;obtain⟨q2,f2,b2,o2,n2,t2,u2,e2,g2,c2,d2⟩:=qF hp hj;have hne:q1.1≠q2.1:=λz=>hij ((List.getElem?_inj (by rw[List.length_map];exact(List.getElem?_eq_some_iff.mp f1).1) nd).mp (by rw[List.getElem?_map,List.getElem?_map,f1,f2];simp[z]));unfold kas_ask;rw[e1,e2];refine kat_lt g1 d1 g2 d2 (SeqAt.EqAt.str_str q1.1 t1 q2.1 t2 _ _ _ _ ?_);refine Qw (by simpa using hne) ?_;refine oneLt_str ?_;have e:cS (ps.map (·.1)) i j=decide (q1.1.cps.toList < q2.1.cps.toList):=by
  unfold cS;rw[List.getD_eq_getElem?_getD,List.getD_eq_getElem?_getD,List.getElem?_map,List.getElem?_map,f1,f2];rfl
 rw[e] at h;exact h
theorem uk{vs:List Value}{ps:List (Str × Int)}(hp:Paired (DZ s.heap) vs ps)(h2:2<=vs.length){Q':SortKind->Shared->Prop}(q:Q' (tuples' true) s):wpAny (model prog w) A (keyKind' vs.toArray) Q' E s:=by
 obtain⟨fs,k,l,st⟩:=su hp;refine kat_kind (T:= .type "str") k (by omega) (λv m=>?_) (by decide) q;obtain⟨x,t,rfl⟩:=st v m;exact Looks.now
end
theorem om{α β :Type}{R: α -> β ->Prop}: ∀{xs:List α}{zs:List β},Paired R xs zs-> ∀{i:Nat}(d: α)(e: β),i < xs.length->R (xs.getD i d) (zs.getD i e)
 | _,_,.nil,i,_,_,hi=>absurd hi (Nat.not_lt_zero _)
 | _,_,.cons hp hr,0,_,_,_=>hp
 | _,_,.cons hp hr,i+1,d,e,hi=>by simpa using om hr (i:=i) d e (by simpa using hi)
theorem lJ{α β :Type}{R: α -> β ->Prop}{xs:List α}{zs:List β}(hp:Paired R xs zs)(d: α)(e: β): ∀{is:List Nat},(∀ i∈is,i < xs.length)->Paired R (is.map λi=>xs.getD i d) (is.map λi=>zs.getD i e)
 | [],_=> .nil
 | i::r,hi=> .cons (om hp d e (hi i List.mem_cons_self)) (lJ hp d e λj m=>hi j (List.mem_cons_of_mem _ m))
theorem tU: ∀{xs:List V}{us:List Value},Vals xs us-> ∀{i:Nat},i < xs.length->RelV (xs.getD i .non) (us.getD i .none)
 | _,_,.nil,i,hi=>absurd hi (Nat.not_lt_zero _)
 | _,_,.cons hp hr,0,_=>hp
 | _,_,.cons hp hr,i+1,hi=>by simpa using tU hr (i:=i) (by simpa using hi)
theorem pA{xs:List V}{us:List Value}(h:Vals xs us): ∀{is:List Nat},(∀ i∈is,i < xs.length)->Vals (is.map λi=>xs.getD i .non) (is.map λi=>us.getD i .none)
 | [],_=> .nil
 | i::r,hi=> .cons (tU h (hi i List.mem_cons_self)) (pA h λj m=>hi j (List.mem_cons_of_mem _ m))
theorem xY{α :Type}(l:List α)(d: α):(List.range l.length).map (λi=>l.getD i d)=l:=by
 refine List.ext_getElem? λi=>?_;rw[List.getElem?_map];by_cases h:i < l.length
 . rw[List.getElem?_range h,List.getElem?_eq_getElem h];simp[h]
 . rw[List.getElem?_eq_none (by rw[List.length_range];omega),List.getElem?_eq_none (by omega)];rfl
noncomputable def uE(K:PySem.W.Frag):List V->Hp->VK->Prop:=λxs H Q=> ∃(p:Addr)(ys:List V)(ps:List (Str × Int)),xs=[.ref p]/\gi K H p ys/\Paired (jf H) ys ps/\ps.length < 64/\(ps.map (·.1)).Nodup /\
 ∀ l ys' ps',H l=none->ps'.Perm ps->(ps'.map (·.1)).Pairwise hI->Paired (jf H) ys' ps'->Q (.ref l) (upd H l (.lst ys'))
section
variable{X:Cx}
theorem qx:aZ X (.builtin "sorted") (uE X.K):=by
 intro pins s σ H xs us Q I r h;obtain⟨p,ys,ps,rfl,hS,hP,h5,nd,q⟩:=h;obtain⟨u,rfl,ru⟩:=vals1 r;cases(show u=Value.ref p from ru);obtain⟨av,hv,hl,hz⟩:=I.list hS;have hat:=tf I.bx hP hv;have hlen:=hv.length;have hpl:=Paired.length hP;have fs0:=t6 (xs:=ps.map (·.1))
 rw[List.length_map] at fs0;have el:av.length=ps.length:=by omega
 have fin: ∀(out:List Value)(ys':List V)(ps':List (Str × Int)),ys'.length=ps.length->Vals ys' out->ps'.Perm ps->(ps'.map (·.1)).Pairwise hI->Paired (jf H) ys' ps'->EP X pins σ Q (.ref (s.heap.objs.size+1)) { s with heap:=sortedAll s.heap av out.toArray }:=λout ys' ps' hl' hv' pm pw pp=>by
  obtain⟨e,he⟩:=sortedAll_at s.heap av out.toArray;obtain⟨hn,I'⟩:=I.kI (a:=s.heap.objs.size+1) (o:= .lst ys') (t':=s.toks) (λb o e=>sortedAll_old e) (Heap.get?_none_of_le (Nat.le_succ _)) ⟨by rw[hl'];exact Nat.le_trans (Nat.le_of_lt h5) (by decide),out,e,hv',by simpa [seqObj] using he⟩;exact⟨.ref _,_,I',rfl,q _ ys' ps' hn pm pw pp⟩
 refine vf (κ :=tuples' true) (G:=λp=>2<=av.length/\p=vV (cS (ps.map (·.1))) (kas_sort ps.length)) hl.isList (by omega)
  (λh' k h2 Q' hq=>uk (s:={ s with heap:=h' }) (Paired.xM hat λv q x=>x.kept k) h2 hq)
  (λh' k h2 Q' hq=>rO (n:=av.length) (c:=cS (ps.map (·.1))) (λi j C hi hj hij hc=>xO (s:={ s with heap:=h' }) (Paired.xM hat λv q x=>x.kept k) nd hi hj hij hc) _ (by rw[el];exact(fs0 (by omega) nd).1) (hq _ ⟨h2,by rw[el]⟩))
  (λh2=>?_) λpp hpp g=>?_
 . refine fin av ys ps (by omega) hv (List.Perm.refl _) ?_ hP;cases ps with
   | nil=>exact .nil
   | cons x r=>cases r with
    | nil=>exact List.pairwise_singleton _ _
    | cons y r'=>simp at el;omega
 . obtain⟨g2,g⟩:=g;have fs:=fs0 (by omega) nd;subst g;have lt: ∀ i∈(vV (cS (ps.map (·.1))) (kas_sort ps.length)).toList,i < ps.length:=λi hi=>List.mem_range.mp (fs.2.1.mem_iff.mp hi)
   refine fin _ ((vV (cS (ps.map (·.1))) (kas_sort ps.length)).toList.map λi=>ys.getD i .non) ((vV (cS (ps.map (·.1))) (kas_sort ps.length)).toList.map λi=>ps.getD i ("",0)) ?_ (pA hv λi hi=>by have:=lt i hi;omega) ?_ ?_ (lJ hP _ _ λi hi=>by have:=lt i hi;omega)
   . rw[List.length_map,Array.length_toList,hpp,el]
   . have:=fs.2.1.map (λi=>ps.getD i ("",0));rw[xY] at this;exact this
   . have e:(((vV (cS (ps.map (·.1))) (kas_sort ps.length)).toList.map λi=>ps.getD i ("",0)).map (·.1))=(vV (cS (ps.map (·.1))) (kas_sort ps.length)).toList.map λi=>(ps.map (·.1)).getD i ("" :Str):=by
      rw[List.map_map];refine List.map_congr_left λi hi=>?_;show(ps.getD i ("",0)).1=_;rw[List.getD_eq_getElem?_getD,List.getD_eq_getElem?_getD,List.getElem?_map,List.getElem?_eq_getElem (lt i hi)];rfl
     rw[e];exact fs.2.2
theorem sC(hc:X.calm=true):aZ X (.builtin "sorted") (λxs H Q=>An X.K xs H Q\/(BH xs H Q\/uE X.K xs H Q)):=kR.or ((kY hc).or qx)
end
noncomputable def F1(K:PySem.W.Frag):List V->Hp->VK->Prop:=λxs H Q=> ∃ x p Ts T b,xs=[x,.ref p]/\H p=some (.tup (List.map V.ty Ts))/\i6 K H x (.type T)/\PySem.W.kitAny K (.type T) (List.map Value.type Ts)=some b/\Q (.bl b) H
theorem wI: ∀{Ts:List String}{us:List Value},Vals (Ts.map V.ty) us->us=Ts.map Value.type
 | [],_,.nil=>rfl
 | T::r,u::us,.cons h t=>by rw[wI t,show u=Value.type T from h];rfl
section
variable{X:Cx}
theorem qS:aZ X (.builtin "isinstance") (F1 X.K):=by
 intro pins s σ H xs us Q I r h;obtain⟨x,p,Ts,T,b,rfl,hp,ty,e,q⟩:=h;obtain⟨u,c,rfl,ru,rc⟩:=vals2 r;cases(show c=Value.ref p from rc);obtain⟨_,av,hv,⟨oc,dd,dat,sl⟩,e1,e2,n,e3,_⟩:=(show bg X.prog X.w H s.heap p (.tup (Ts.map V.ty)) from I.bx p _ hp)
 simp only at e2 e3;subst e2 e3;obtain rfl:=wI hv;have fin: ∀ tk,EP X pins σ Q (.bool b) { s with toks:=tk }:=λtk=>⟨.bl b,H,I.tok tk,rfl,q⟩
 generalize hT:Value.type T=t at ty e;cases ty with
 | non=>cases(show u=Value.none from ru);exact kia_tup kitx_none I.ku trivial e1 e nofun fin
 | bl y=>cases(show u=Value.bool y from ru);exact kia_tup kitx_bool I.ku trivial e1 e nofun fin
 | int i=>obtain⟨_,rfl⟩:=(show ∃ t,u=Value.int i t from ru);exact kia_tup kitx_int I.ku trivial e1 e nofun fin
 | str y=>obtain⟨_,rfl⟩:=(show ∃ t,u=Value.str y t from ru);exact kia_tup kitx_str I.ku trivial e1 e nofun fin
 | flt y=>obtain⟨_,rfl⟩:=(show ∃ t,u=Value.float y t from ru);exact kia_tup kitx_float I.ku trivial e1 e nofun fin
 | @lst a xs ea =>
  cases(show u=Value.ref a from ru)
  obtain⟨_,_,_,_,g⟩:=(show bg X.prog X.w H s.heap a (.lst xs) from I.bx a _ ea)
  exact kia_tup kitx_list I.ku ⟨_,g,rfl⟩ e1 e nofun fin
 | @jB a ob xs ea =>
  cases(show u=Value.ref a from ru)
  obtain⟨_,_,_,_,_,g⟩:=(show bg X.prog X.w H s.heap a (.jB ob (.lst xs)) from I.bx a _ ea)
  exact kia_tup kitx_list I.ku ⟨_,g,rfl⟩ e1 e nofun fin
 | @tup a xs ea =>
  cases(show u=Value.ref a from ru)
  obtain⟨_,_,_,o,g1,g2,_⟩:=(show bg X.prog X.w H s.heap a (.tup xs) from I.bx a _ ea)
  exact kia_tup kitx_tuple I.ku ⟨o,g1,g2⟩ e1 e nofun fin
 | @dK a kvs ea =>
  cases(show u=Value.ref a from ru)
  obtain⟨_,_,_,_,o,_,_,g1,g2,_⟩:=(show bg X.prog X.w H s.heap a (.dK kvs) from I.bx a _ ea)
  exact kia_tup kitx_dict I.ku ⟨o,g1,g2.1⟩ e1 e nofun fin
 | @dT a kvs ea =>
  cases(show u=Value.ref a from ru)
  obtain⟨_,_,_,_,o,_,_,g1,g2,_⟩:=(show bg X.prog X.w H s.heap a (.dT kvs) from I.bx a _ ea)
  exact kia_tup kitx_dict I.ku ⟨o,g1,g2.1⟩ e1 e nofun fin
 | ins=>cases hT
theorem Bq:aZ X (.builtin "isinstance") (λxs H Q=>NN X.K xs H Q\/F1 X.K xs H Q):=Ez.or qS
end
section
variable{prog:Program}{w:World}{A:Around}{E:Value->Shared->Prop}{s:Shared}
theorem OR{α :Type}{c:Prop}[Decidable c]{m m':Sem α}{M:Model}{Q: α ->Shared->Prop}(hc: ¬ c)(h:wpAny M A m' Q E s):wpAny M A (if c then m else m') Q E s:=by rw[if_neg hc];exact h
theorem gE{it t:Addr}{i:Nat}{items:Array Value}{x:Value}{Q:Value->Shared->Prop}(hit:s.heap.IsTupleIter it t i)(ht:s.heap.IsTuple t items)(hx:items[i]?=some x)
  (q: ∀ h',h'.IsTupleIter it t (i+1)->Heap.SameBut it s.heap h'->Q x { s with heap:=h' }):wpAny (model prog w) A (Builtin.SmallTypes.nextOf (.ref it)) Q E s:=by
 obtain⟨oi,g1,c1,d1⟩:=id hit;obtain⟨ot,g2,_,k,d2⟩:=id ht;have new:(s.heap.update it (Obj.mapFields (·.setIfInBounds 1 (rawInt ((i:Int)+1))))).IsTupleIter it t (i+1):=⟨_,Heap.get?_update_self _ g1 (Obj.isFreed_of_fields (Obj.data_mapFields d1 _)),(Obj.cls_mapFields ..).trans c1,(Obj.data_mapFields d1 _).trans (by simp[rawInt])⟩
 refine wpAny_bind (wpAny_callSpecial?_slot (name:=Str.ofString "__next__") hit.typeIs PySem.F.slot_tuple_iterator_next (wpAny_call_entry PySem.F.slot_tuple_iterator_next hit.typeIs PySem.F.entry_tuple_iterator_next ?_ (PySem.F.args_tuple_iterator_next_1 (.ref it))));refine wpAny_bind (m:=field (.ref it) 0) (wpAny_field g1 d1 (x:= .ref t) rfl (OR (λz=>nomatch z) (wpAny_bind (m:=field (.ref it) 1) (wpAny_field g1 d1 (x:= .int i 0) rfl (wpAny_bind (m:=seqItems? (.ref t)) (wpAny_seqItems g2 d2 ?_))))));dsimp only;rw[Int.toNat_natCast,hx];exact wpAny_bind (wpAny_setField g1 d1 (by simp) (wpAny_pure ⟨x,rfl,wpAny_pure (q _ new (Heap.SameBut.update ..))⟩))
theorem kN{it t:Addr}{i:Nat}{items:Array Value}{Q:Value->Shared->Prop}(hh:A.handled=none)(hit:s.heap.IsTupleIter it t i)(ht:s.heap.IsTuple t items)(hx:items[i]?=none)
  (q: ∀ h' e,Heap.ExtBut it s.heap h'->(∃ o,h'.get? e=some o/\o.cls= .type "StopIteration")->E (.ref e) { s with heap:=h' }):wpAny (model prog w) A (Builtin.SmallTypes.nextOf (.ref it)) Q E s:=by
 obtain⟨oi,g1,c1,d1⟩:=id hit;obtain⟨ot,g2,_,k,d2⟩:=id ht;refine wpAny_bind (wpAny_callSpecial?_slot (name:=Str.ofString "__next__") hit.typeIs PySem.F.slot_tuple_iterator_next (wpAny_call_entry PySem.F.slot_tuple_iterator_next hit.typeIs PySem.F.entry_tuple_iterator_next ?_ (PySem.F.args_tuple_iterator_next_1 (.ref it))));refine wpAny_bind (m:=field (.ref it) 0) (wpAny_field g1 d1 (x:= .ref t) rfl (OR (λz=>nomatch z) (wpAny_bind (m:=field (.ref it) 1) (wpAny_field g1 d1 (x:= .int i 0) rfl (wpAny_bind (m:=seqItems? (.ref t)) (wpAny_seqItems g2 d2 ?_))))));dsimp only;rw[Int.toNat_natCast,hx];refine wpAny_bind (wpAny_rule (wpAny_bind (wpAny_setField g1 d1 (by simp) (wpAny_bind (m:=newExc (.type "StopIteration") []) (wpAny_bind (m:=newTuple []) (wpAny_newObj_type ?_ (by size_fits)))))));refine wpAny_bind (m:=firstArgMember _ _) (wpAny_of_eq (a:=Value.none) (by simp only[firstArgMember];rfl) (wpAny_newObj_type ?_ (by size_fits)));unfold raiseNew;refine wpAny_bind (wpAny_handled ?_);rw[show A.in1.handled=none from hh];exact wpAny_bind (wpAny_pure (wpAny_throw (q _ _ (((Heap.SameBut.update ..).extBut.push _).push _) ⟨_,Heap.get?_push_size _ rfl,rfl⟩)))
structure sF(h:Heap)(z TI TO i1 i2 l1 l2:Addr)(k:Nat):Prop where
 xV:IsZip h z TI TO .none
 av:IsPair h TI (.ref i1) (.ref i2)
 old: ∃ a b,IsPair h TO a b
 one:h.IsTupleIter i1 l1 k
 two:h.IsTupleIter i2 l2 k
theorem wW{z TI TO i1 i2 l1 l2:Addr}{k:Nat}{xs ys:Array Value}{x y:Value}{Q:Value->Shared->Prop}(D:ZipApart z TI TO i1 i2 l1 l2)(Z:sF s.heap z TI TO i1 i2 l1 l2 k)(t1:s.heap.IsTuple l1 xs)(t2:s.heap.IsTuple l2 ys)(hx:xs[k]?=some x)(hy:ys[k]?=some y)
  (q: ∀ h',IsZip h' z TI TO (rawInt s.heap.objs.size)->IsPair h' TI (.ref i1) (.ref i2)->IsPair h' TO x y->h'.IsTupleIter i1 l1 (k+1)->h'.IsTupleIter i2 l2 (k+1)->IsPair h' s.heap.objs.size x y ->
   (∀ c o,c≠z->c≠TO->c≠i1->c≠i2->s.heap.get? c=some o->h'.get? c=some o)->Q (.ref s.heap.objs.size) { s with heap:=h' }):wpAny (model prog w) A (Builtin.«zip.__next__» ⟨[.ref z],[]⟩) (λr u=> ∃ v,r= .done (.ret v)/\Q v u) E s:=by
 obtain⟨hz,hTI,⟨a,b,hTO⟩,o1,o2⟩:=Z;refine wpAny_bind (m:=field (.ref z) 2) (wpAny_field hz rfl (x:= .bool false) rfl ?_);refine wpAny_bind (m:=field (.ref z) 3) (wpAny_field hz rfl (x:= .ref TI) rfl (wpAny_bind (wpAny_seqItems hTI rfl ?_)));refine wpAny_bind (m:=Builtin.SmallTypes.ownedTupleIsFree (.ref z)) (wpAny_bind (m:=field (.ref z) 0) (wpAny_field hz rfl (x:= .none) rfl (wpAny_pure (Od rfl (wpAny_bind (wpAny_rule ?_))))));refine wpAny_bind (m:=field (.ref z) 4) (wpAny_field hz rfl (x:= .ref TO) rfl (wpAny_bind (wpAny_setField_rec hz (by simp) λu1 z1 b1=>?_)))
 replace z1:IsZip u1 z TI TO .ellipsis:=z1
 refine wpAny_bind ?_;rw[show(#[Value.ref i1,Value.ref i2]:Array Value).toList.zipIdx=[(Value.ref i1,0),(Value.ref i2,1)] from rfl,List.forIn_cons];refine wpAny_bind (wpAny_bind (wpAny_onRaise (wpAny_bind (m:=Builtin.SmallTypes.nextOf (.ref i1)) (gE (o1.at λo e=>b1.extBut _ _ D.i1z e) (t1.at λo e=>b1.extBut _ _ D.l1z e) hx λu2 p1 b2=>wpAny_pure ?_))));have T2:IsPair u2 TO a b:=b2.extBut _ _ D.TOi1 (b1.extBut _ _ D.TOz hTO);refine wpAny_bind (wpAny_seqItems T2 rfl (wpAny_bind (wpAny_updateSeq_pair T2 λu3 T3 b3=>wpAny_bind (wpAny_letGo (wpAny_pure ?_)))))
 replace T3:IsPair u3 TO x b:=T3
 have k3: ∀ c o,c≠z->c≠TO->c≠i1->s.heap.get? c=some o->u3.get? c=some o:=λc o n1 n2 n3 e=>b3.extBut _ _ n2 (b2.extBut _ _ n3 (b1.extBut _ _ n1 e));dsimp only;rw[List.forIn_cons];refine wpAny_bind (wpAny_bind (wpAny_onRaise (wpAny_bind (m:=Builtin.SmallTypes.nextOf (.ref i2)) (gE (o2.at λo e=>k3 _ o D.i2z D.TOi2.symm D.i12.symm e) (t2.at λo e=>k3 _ o D.l2z D.l2TO D.l2i1 e) hy λu4 p2 b4=>wpAny_pure ?_))));have T4:IsPair u4 TO x b:=b4.extBut _ _ D.TOi2 T3;refine wpAny_bind (wpAny_seqItems T4 rfl (wpAny_bind (wpAny_updateSeq_pair T4 λu5 T5 b5=>wpAny_bind (wpAny_letGo (wpAny_pure ?_)))))
 replace T5:IsPair u5 TO x y:=T5
 have k5: ∀ c o,c≠z->c≠TO->c≠i1->c≠i2->s.heap.get? c=some o->u5.get? c=some o:=λc o n1 n2 n3 n4 e=>b5.extBut _ _ n2 (b4.extBut _ _ n4 (k3 c o n1 n2 n3 e));have sz:u5.objs.size=s.heap.objs.size:=b5.1.trans (b4.1.trans (b3.1.trans (b2.1.trans b1.1)));have z5:IsZip u5 z TI TO .ellipsis:=b5.extBut _ _ D.TOz.symm (b4.extBut _ _ D.i2z.symm (b3.extBut _ _ D.TOz.symm (b2.extBut _ _ D.i1z.symm z1)));have p15:u5.IsTupleIter i1 l1 (k+1):=p1.at λo e=>b5.extBut _ _ D.TOi1.symm (b4.extBut _ _ D.i12 (b3.extBut _ _ D.TOi1.symm e));have p25:u5.IsTupleIter i2 l2 (k+1):=p2.at λo e=>b5.extBut _ _ D.TOi2.symm e;have lz:z < u5.objs.size:=Heap.lt_size z5;dsimp only;rw[List.forIn_nil];refine wpAny_pure (wpAny_bind (wpAny_seqItems T5 rfl (wpAny_bind (wpAny_newTuple ?_ (by show 2<=sizeLine;decide)))));have z6:IsZip (u5.push { cls:= .type "tuple",data:= .seq #[x,y] }) z TI TO .ellipsis:=Heap.get?_push_of_some _ z5;refine wpAny_bind (m:=Builtin.SmallTypes.ownedTupleHandOut (.ref z) (.ref u5.objs.size)) (wpAny_bind (wpAny_setField_rec z6 (by simp) λu7 z7 b7=>wpAny_setField_rec (show IsZip u7 z TI TO (rawInt u5.objs.size) from z7) (by simp) λu8 z8 b8=>wpAny_pure ⟨_,rfl,?_⟩));have up: ∀ c o,c≠z->u5.get? c=some o->u8.get? c=some o:=λc o n e=>b8.extBut _ _ n (b7.extBut _ _ n (Heap.get?_push_of_some _ e));have T8:IsPair u8 u5.objs.size x y:=b8.extBut _ _ (Nat.ne_of_gt lz) (b7.extBut _ _ (Nat.ne_of_gt lz) (Heap.get?_push_size _ rfl))
 replace z8:IsZip u8 z TI TO (rawInt u5.objs.size):=z8
 rw[sz] at z8 T8 ⊢;exact q u8 z8 (up _ _ D.TIz (k5 _ _ D.TIz D.TITO D.TIi1 D.TIi2 hTI)) (up _ _ D.TOz T5) (p15.at λo e=>up _ o D.i1z e) (p25.at λo e=>up _ o D.i2z e) T8 λc o n1 n2 n3 n4 e=>up c o n1 (k5 c o n1 n2 n3 n4 e)
theorem BP{z TI TO i1 i2 l1 l2:Addr}{k:Nat}{xs ys:Array Value}{Q:PySem.Fin->Shared->Prop}(hh:A.handled=none)(D:ZipApart z TI TO i1 i2 l1 l2)(Z:sF s.heap z TI TO i1 i2 l1 l2 k)(t1:s.heap.IsTuple l1 xs)(t2:s.heap.IsTuple l2 ys)(he:xs[k]?=none\/ys[k]?=none)
  (q: ∀ h' e,(∀ c o,c≠z->c≠TO->c≠i1->c≠i2->s.heap.get? c=some o->h'.get? c=some o)->(∃ o,h'.get? e=some o/\o.cls= .type "StopIteration")->E (.ref e) { s with heap:=h' }):wpAny (model prog w) A (Builtin.«zip.__next__» ⟨[.ref z],[]⟩) Q E s:=by
 obtain⟨hz,hTI,⟨a,b,hTO⟩,o1,o2⟩:=Z;have ap: ∀(h':Heap)(f0:Value)(e:Addr)(o:Obj),IsZip h' z TI TO f0->h'.get? e=some o->o.cls= .type "StopIteration" ->e≠z:=λh' f0 e o y g c n=>by rw[n,y] at g;cases g;simp at c
 refine wpAny_bind (m:=field (.ref z) 2) (wpAny_field hz rfl (x:= .bool false) rfl ?_);refine wpAny_bind (m:=field (.ref z) 3) (wpAny_field hz rfl (x:= .ref TI) rfl (wpAny_bind (wpAny_seqItems hTI rfl ?_)));refine wpAny_bind (m:=Builtin.SmallTypes.ownedTupleIsFree (.ref z)) (wpAny_bind (m:=field (.ref z) 0) (wpAny_field hz rfl (x:= .none) rfl (wpAny_pure (Od rfl (wpAny_bind (wpAny_rule ?_))))));refine wpAny_bind (m:=field (.ref z) 4) (wpAny_field hz rfl (x:= .ref TO) rfl (wpAny_bind (wpAny_setField_rec hz (by simp) λu1 z1 b1=>?_)))
 replace z1:IsZip u1 z TI TO .ellipsis:=z1
 refine wpAny_bind ?_;rw[show(#[Value.ref i1,Value.ref i2]:Array Value).toList.zipIdx=[(Value.ref i1,0),(Value.ref i2,1)] from rfl,List.forIn_cons]
 match hx:xs[k]? with
 | none =>
  refine wpAny_bind (wpAny_bind (wpAny_onRaise (wpAny_bind (m:=Builtin.SmallTypes.nextOf (.ref i1)) (kN hh (o1.at λo e=>b1.extBut _ _ D.i1z e) (t1.at λo e=>b1.extBut _ _ D.l1z e) hx λu2 e b2 g=>?_))))
  obtain⟨oe,g1,g2⟩:=g
  have z2:IsZip u2 z TI TO .ellipsis:=b2 _ _ D.i1z.symm z1
  exact wpAny_setField_rec z2 (by simp) λu3 _ b3=>q u3 e (λc o n1 _ n3 _ y=>b3.extBut _ _ n1 (b2 _ _ n3 (b1.extBut _ _ n1 y))) ⟨oe,b3.extBut _ _ (ap u2 _ e oe z2 g1 g2) g1,g2⟩
 | some x =>
  have hy:ys[k]?=none:=he.resolve_left (by rw[hx];intro y;cases y)
  refine wpAny_bind (wpAny_bind (wpAny_onRaise (wpAny_bind (m:=Builtin.SmallTypes.nextOf (.ref i1)) (gE (o1.at λo e=>b1.extBut _ _ D.i1z e) (t1.at λo e=>b1.extBut _ _ D.l1z e) hx λu2 p1 b2=>wpAny_pure ?_))))
  have T2:IsPair u2 TO a b:=b2.extBut _ _ D.TOi1 (b1.extBut _ _ D.TOz hTO)
  refine wpAny_bind (wpAny_seqItems T2 rfl (wpAny_bind (wpAny_updateSeq_pair T2 λu3 T3 b3=>wpAny_bind (wpAny_letGo (wpAny_pure ?_)))))
  have k3: ∀ c o,c≠z->c≠TO->c≠i1->s.heap.get? c=some o->u3.get? c=some o:=λc o n1 n2 n3 e=>b3.extBut _ _ n2 (b2.extBut _ _ n3 (b1.extBut _ _ n1 e))
  dsimp only
  rw[List.forIn_cons]
  refine wpAny_bind (wpAny_bind (wpAny_onRaise (wpAny_bind (m:=Builtin.SmallTypes.nextOf (.ref i2)) (kN hh (o2.at λo e=>k3 _ o D.i2z D.TOi2.symm D.i12.symm e) (t2.at λo e=>k3 _ o D.l2z D.l2TO D.l2i1 e) hy λu4 e b4 g=>?_))))
  obtain⟨oe,g1,g2⟩:=g
  have z4:IsZip u4 z TI TO .ellipsis:=b4 _ _ D.i2z.symm (b3.extBut _ _ D.TOz.symm (b2.extBut _ _ D.i1z.symm z1))
  exact wpAny_setField_rec z4 (by simp) λu5 _ b5=>q u5 e (λc o n1 n2 n3 n4 y=>b5.extBut _ _ n1 (b4 _ _ n4 (k3 c o n1 n2 n3 y))) ⟨oe,b5.extBut _ _ (ap u4 _ e oe z4 g1 g2) g1,g2⟩
theorem m8{z TI TO i1 i2 l1 l2:Addr}{k:Nat}{xs ys:Array Value}{x y:Value}{Q:Option Value->Shared->Prop}(D:ZipApart z TI TO i1 i2 l1 l2)(Z:sF s.heap z TI TO i1 i2 l1 l2 k)(t1:s.heap.IsTuple l1 xs)(t2:s.heap.IsTuple l2 ys)(hx:xs[k]?=some x)(hy:ys[k]?=some y)
  (q: ∀ h',IsZip h' z TI TO (rawInt s.heap.objs.size)->IsPair h' TI (.ref i1) (.ref i2)->IsPair h' TO x y->h'.IsTupleIter i1 l1 (k+1)->h'.IsTupleIter i2 l2 (k+1)->IsPair h' s.heap.objs.size x y ->
   (∀ c o,c≠z->c≠TO->c≠i1->c≠i2->s.heap.get? c=some o->h'.get? c=some o)->Q (some (.ref s.heap.objs.size)) { s with heap:=h' }):wpAny (model prog w) A (pyNext (.ref z)) Q E s :=
 have ty:s.TypeIs (.ref z) "zip" :=⟨_,Z.xV,rfl⟩
 wpAny_bind (wpAny_attempt (wpAny_callSpecial?_slot (name:=Str.ofString "__next__") ty PySem.F.slot_zip_next (wpAny_call_entry PySem.F.slot_zip_next ty PySem.F.entry_zip_next (wW D Z t1 t2 hx hy λh' a1 a2 a3 a4 a5 a6 a7=>wpAny_pure (q h' a1 a2 a3 a4 a5 a6 a7)) (PySem.F.args_zip_next_1 (.ref z)))))
theorem oX{z TI TO i1 i2 l1 l2:Addr}{k:Nat}{xs ys:Array Value}{Q:Option Value->Shared->Prop}(hh:A.handled=none)(D:ZipApart z TI TO i1 i2 l1 l2)(Z:sF s.heap z TI TO i1 i2 l1 l2 k)(t1:s.heap.IsTuple l1 xs)(t2:s.heap.IsTuple l2 ys)(he:xs[k]?=none\/ys[k]?=none)
  (q: ∀ h',(∀ c o,c≠z->c≠TO->c≠i1->c≠i2->s.heap.get? c=some o->h'.get? c=some o)->Q none { s with heap:=h' }):wpAny (model prog w) A (pyNext (.ref z)) Q E s :=
 have ty:s.TypeIs (.ref z) "zip" :=⟨_,Z.xV,rfl⟩
 wpAny_bind (wpAny_attempt (wpAny_callSpecial?_slot (name:=Str.ofString "__next__") ty PySem.F.slot_zip_next (wpAny_call_entry PySem.F.slot_zip_next ty PySem.F.entry_zip_next (BP (A:=A.in1) hh D Z t1 t2 he λh' e a1 g =>
  let ⟨o,g1,g2⟩:=g;wpAny_bind (wpAny_isInstance (T:= "StopIteration") (b:=true) ⟨o,g1,g2⟩ isSubtype_stop (wpAny_pure (q h' a1)))) (PySem.F.args_zip_next_1 (.ref z)))))
end
end L2
end
section
open PySem PySem.W PyProof.Rows
namespace P3
open PySem PySem.Spec PyProof.Rows L2
inductive PV where
 | non | bl (b:Bool) | int (i:Int) | str (x:Str) | tup (xs:List PV) | ktup (xs:List PV) | ref (n:Nat) | ty (n:String)
mutual
def PV.beq:PV->PV->Bool
 | .non,.non=>true
 | .bl a,.bl b=>decide (a=b)
 | .int a,.int b=>decide (a=b)
 | .str a,.str b=>decide (a=b)
 | .tup a,.tup b=>PV.vt a b
 | .ktup a,.ktup b=>PV.vt a b
 | .ref a,.ref b=>decide (a=b)
 | .ty a,.ty b=>decide (a=b)
 | _,_=>false
def PV.vt:List PV->List PV->Bool
 | [],[]=>true
 | a::x,b::y=>PV.beq a b&&PV.vt x y
 | _,_=>false
end
mutual
theorem PV.beq_iff: ∀(a b:PV),PV.beq a b=true↔a=b
 | .non,b=>by cases b<;>simp[PV.beq]
 | .bl _,b=>by cases b<;>simp[PV.beq]
 | .int _,b=>by cases b<;>simp[PV.beq]
 | .str _,b=>by cases b<;>simp[PV.beq]
 | .ref _,b=>by cases b<;>simp[PV.beq]
 | .ty _,b=>by cases b<;>simp[PV.beq]
 | .tup a,b=>by
  cases b with
  | tup b=>rw[PV.beq,PV.mY a b];simp
  | _=>simp[PV.beq]
 | .ktup a,b=>by
  cases b with
  | ktup b=>rw[PV.beq,PV.mY a b];simp
  | _=>simp[PV.beq]
theorem PV.mY: ∀(a b:List PV),PV.vt a b=true↔a=b
 | [],b=>by cases b<;>simp[PV.vt]
 | a::x,b=>by
  cases b with
  | nil=>simp[PV.vt]
  | cons b y=>rw[PV.vt,Bool.and_eq_true,PV.beq_iff a b,PV.mY x y];simp
end
instance:DecidableEq PV:=λa b=>decidable_of_iff _ (PV.beq_iff a b)
mutual
def PV.flat:PV->Bool
 | .ref _=>false
 | .tup xs=>PV.dE xs
 | .ktup xs=>PV.dE xs
 | _=>true
def PV.dE:List PV->Bool
 | []=>true
 | x::r=>x.flat&&PV.dE r
end
mutual
def PV.i3(n:Nat):PV->Bool
 | .ref m=>decide (m < n)
 | .tup xs=>PV.jE n xs
 | .ktup xs=>PV.jE n xs
 | _=>true
def PV.jE(n:Nat):List PV->Bool
 | []=>true
 | x::r=>x.i3 n&&PV.jE n r
end
inductive PO where
 | lst (xs:List PV) | kD (xs:List PV) | dct (kvs:List (Key × PV))
 deriving DecidableEq
noncomputable def PO.fU:PO->Bool
 | .kD _=>false
 | _=>true
noncomputable def PO.i3(n:Nat):PO->Bool
 | .lst xs=>PV.jE n xs
 | .kD xs=>PV.jE n xs
 | .dct kvs=>PV.jE n (kvs.map (·.2))
abbrev PH:=List PO
abbrev ax:=List (Option PV)
noncomputable def KT(K:PySem.W.Frag)(a:Addr)(xs:List V):Prop:= ∃(o:Obj)(av:Array Value)(n:Nat),K.lookup a=some o/\o.cls= .type "tuple" /\o.data= .seq av n/\av.size<=sizeLine/\Vals xs av.toList
mutual
def rel(K:PySem.W.Frag)(ρ :List Addr)(H:Hp):PV->V->Prop
 | .non,v=>v= .non
 | .bl b,v=>v= .bl b
 | .int i,v=>v= .int i
 | .str x,v=>v= .str x
 | .ty n,v=>v= .ty n
 | .ref n,v=> ∃ a, ρ[n]?=some a∧v= .ref a
 | .tup xs,v=> ∃ a vs,v= .ref a∧H a=some (.tup vs)∧aw K ρ H xs vs
 | .ktup xs,v=> ∃ a vs,v= .ref a∧KT K a vs∧aw K ρ H xs vs
def aw (K:PySem.W.Frag) (ρ :List Addr) (H:Hp):List PV->List V->Prop
 | [],vs=>vs=[]
 | x::r,vs=> ∃ v t,vs=v::t∧rel K ρ H x v∧aw K ρ H r t
end
structure Gr (ρ :List Addr) (H:Hp) (ρ':List Addr) (H':Hp):Prop where
 pre: ∀ (n:Nat) (a:Addr), ρ[n]?=some a-> ρ'[n]?=some a
 tup: ∀ a xs,H a=some (.tup xs)->H' a=some (.tup xs)
 jB: ∀ a o u,H a=some (.jB o u)->H' a=some (.jB o u)
theorem Gr.refl (ρ :List Addr) (H:Hp):Gr ρ H ρ H:=⟨λ_ _ h=>h,λ_ _ h=>h,λ_ _ _ h=>h⟩
theorem Gr.trans{ρ ρ1 ρ2:List Addr}{H H1 H2:Hp}(a:Gr ρ H ρ1 H1)(b:Gr ρ1 H1 ρ2 H2):Gr ρ H ρ2 H2 :=
 ⟨λn x h=>b.pre n x (a.pre n x h),λx xs h=>b.tup x xs (a.tup x xs h),λx o u h=>b.jB x o u (a.jB x o u h)⟩
section
variable{K:PySem.W.Frag}{ρ ρ':List Addr}{H H':Hp}
theorem Gr.BW(g:Gr ρ H ρ' H'){a:Addr}{xs:List V}(h:fe K H a xs):fe K H' a xs:=by
 rcases h with(h | ⟨o,h⟩) | h
 . exact .inl (.inl (g.tup _ _ h))
 . exact .inl (.inr ⟨o,g.jB _ _ _ h⟩)
 . exact .inr h
theorem Gr.Qo(g:Gr ρ H ρ' H'){a:Addr}{xs:List V}(h:wx K H a xs):wx K H' a xs:=by
 rcases h with⟨o,h⟩ | h
 . exact .inl ⟨o,g.jB _ _ _ h⟩
 . exact .inr h
mutual
theorem rel.gr(g:Gr ρ H ρ' H'): ∀(x:PV)(v:V),rel K ρ H x v->rel K ρ' H' x v
 | .non,v,h=>by simpa only[rel] using h
 | .bl _,v,h=>by simpa only[rel] using h
 | .int _,v,h=>by simpa only[rel] using h
 | .str _,v,h=>by simpa only[rel] using h
 | .ty _,v,h=>by simpa only[rel] using h
 | .ref n,v,h=>by
  rw[rel] at h ⊢;obtain⟨a,e,h⟩:=h;exact⟨a,g.pre _ _ e,h⟩
 | .tup xs,v,h=>by
  rw[rel] at h ⊢;obtain⟨a,vs,e,s,r⟩:=h;exact⟨a,vs,e,g.tup _ _ s,aw.gr g xs vs r⟩
 | .ktup xs,v,h=>by
  rw[rel] at h ⊢;obtain⟨a,vs,e,s,r⟩:=h;exact⟨a,vs,e,s,aw.gr g xs vs r⟩
theorem aw.gr(g:Gr ρ H ρ' H'): ∀(xs:List PV)(vs:List V),aw K ρ H xs vs->aw K ρ' H' xs vs
 | [],vs,h=>by simpa only[aw] using h
 | x::r,vs,h=>by
  rw[aw] at h ⊢;obtain⟨v,t,e,h1,h2⟩:=h;exact⟨v,t,e,rel.gr g x v h1,aw.gr g r t h2⟩
end
noncomputable def PV.seq?:PV->Option (List PV)
 | .tup xs=>some xs
 | .ktup xs=>some xs
 | _=>none
theorem rel.seq{x:PV}{xs:List PV}{v:V}(e:x.seq?=some xs)(h:rel K ρ H x v): ∃ a vs,v= .ref a/\fe K H a vs/\aw K ρ H xs vs:=by
 cases x<;>simp only[PV.seq?,reduceCtorEq,Option.some.injEq] at e
 . subst e;rw[rel] at h;obtain⟨a,vs,e,z,r⟩:=h;exact⟨a,vs,e,.of z,r⟩
 . subst e;rw[rel] at h;obtain⟨a,vs,e,z,r⟩:=h;exact⟨a,vs,e,.inr z,r⟩
theorem aN{vs:List V}:aw K ρ H [] vs↔vs=[]:=by rw[aw]
theorem aC{x:PV}{r:List PV}{vs:List V}:aw K ρ H (x::r) vs↔ ∃ v t,vs=v::t/\rel K ρ H x v/\aw K ρ H r t:=by rw[aw]
theorem aw.len: ∀{xs:List PV}{vs:List V},aw K ρ H xs vs->xs.length=vs.length
 | [],vs,h=>by rw[aN] at h;rw[h];rfl
 | x::r,vs,h=>by
  obtain⟨v,t,rfl,_,h2⟩:=aC.mp h;simp[aw.len h2]
theorem aw.get: ∀{xs:List PV}{vs:List V}{i:Nat}{x:PV},aw K ρ H xs vs->xs[i]?=some x-> ∃ v,vs[i]?=some v/\rel K ρ H x v
 | [],vs,i,x,h,e=>by simp at e
 | y::r,vs,i,x,h,e=>by
  obtain⟨v,t,rfl,h1,h2⟩:=aC.mp h;cases i with
  | zero=>simp at e;subst e;exact⟨v,rfl,h1⟩
  | succ i=>simpa using aw.get h2 (by simpa using e)
theorem aw.app: ∀{xs ys:List PV}{vs ws:List V},aw K ρ H xs vs->aw K ρ H ys ws->aw K ρ H (xs++ys) (vs++ws)
 | [],ys,vs,ws,h,h'=>by rw[aN] at h;subst h;exact h'
 | x::r,ys,vs,ws,h,h'=>by
  obtain⟨v,t,rfl,h1,h2⟩:=aC.mp h;exact aC.mpr ⟨v,t++ws,rfl,h1,aw.app h2 h'⟩
theorem aw.one{x:PV}{v:V}(h:rel K ρ H x v):aw K ρ H [x] [v]:=aC.mpr ⟨v,[],rfl,h,aN.mpr rfl⟩
theorem aw.take: ∀{xs:List PV}{vs:List V}(n:Nat),aw K ρ H xs vs->aw K ρ H (xs.take n) (vs.take n)
 | xs,vs,0,h=>by simp[aN]
 | [],vs,n+1,h=>by rw[aN] at h;subst h;simp[aN]
 | x::r,vs,n+1,h=>by
  obtain⟨v,t,rfl,h1,h2⟩:=aC.mp h;exact aC.mpr ⟨v,t.take n,rfl,h1,aw.take n h2⟩
theorem aw.drop: ∀{xs:List PV}{vs:List V}(n:Nat),aw K ρ H xs vs->aw K ρ H (xs.drop n) (vs.drop n)
 | xs,vs,0,h=>h
 | [],vs,n+1,h=>by rw[aN] at h;subst h;simp[aN]
 | x::r,vs,n+1,h=>by
  obtain⟨v,t,rfl,h1,h2⟩:=aC.mp h;exact aw.drop n h2
theorem aw.set: ∀{xs:List PV}{vs:List V}{x:PV}{v:V}(i:Nat),aw K ρ H xs vs->rel K ρ H x v->aw K ρ H (xs.set i x) (vs.set i v)
 | [],vs,x,v,i,h,hv=>by rw[aN] at h;subst h;simp[aN]
 | y::r,vs,x,v,i,h,hv=>by
  obtain⟨w,t,rfl,h1,h2⟩:=aC.mp h;cases i with
  | zero=>exact aC.mpr ⟨v,t,rfl,hv,h2⟩
  | succ i=>exact aC.mpr ⟨w,t.set i v,rfl,h1,aw.set i h2 hv⟩
theorem aw.ints: ∀(ns:List Int),aw K ρ H (ns.map PV.int) (ns.map V.int)
 | []=>aN.mpr rfl
 | n::r=>aC.mpr ⟨.int n,r.map V.int,rfl,by rw[rel],aw.ints r⟩
end
noncomputable def kO(K:PySem.W.Frag)(ρ :List Addr)(H:Hp)(a:Addr):PO->Prop
 | .lst xs=> ∃ vs,H a=some (.lst vs)/\aw K ρ H xs vs
 | .kD xs=> ∃ vs,wx K H a vs/\aw K ρ H xs vs
 | .dct kvs=> ∃ kws,H a=some (.dK kws)/\Paired (λ(p:Key × PV) (q:Key × V)=>p.1=q.1/\rel K ρ H p.2 q.2) kvs kws
structure dc(K:PySem.W.Frag)(ρ :List Addr)(h:PH)(H:Hp):Prop where
 len: ρ.length=h.length
 nd: ∀(i j:Nat)(a:Addr)(oi oj:PO),h[i]?=some oi->h[j]?=some oj->oi.fU=true->oj.fU=true-> ρ[i]?=some a-> ρ[j]?=some a->i=j
 ob: ∀ (i:Nat) (o:PO) (a:Addr),h[i]?=some o-> ρ[i]?=some a->kO K ρ H a o
section
variable {K:PySem.W.Frag} {ρ ρ':List Addr} {H H':Hp} {h:PH}
theorem dc.at (s:dc K ρ h H) {i:Nat} {o:PO} (e:h[i]?=some o): ∃ a, ρ[i]?=some a∧kO K ρ H a o:=by
 have hi:i < ρ.length:=by rw [s.len];exact (List.getElem?_eq_some_iff.mp e).1
 exact ⟨ρ[i],List.getElem?_eq_getElem hi,s.ob i o _ e (List.getElem?_eq_getElem hi)⟩
theorem Paired.eZ {kvs:List (Key × PV)} {kws:List (Key × V)} (g:Gr ρ H ρ' H') (h:Paired (λ(p:Key × PV) (q:Key × V)=>p.1=q.1∧rel K ρ H p.2 q.2) kvs kws) :
  Paired (λ(p:Key × PV) (q:Key × V)=>p.1=q.1/\rel K ρ' H' p.2 q.2) kvs kws:=Paired.xM h λ_ _ z=>⟨z.1,rel.gr g _ _ z.2⟩
theorem iB{a:Addr}{o:PO}(m:o.fU=true)(r:kO K ρ H a o):(∃ vs,H a=some (.lst vs))\/ ∃ kws,H a=some (.dK kws):=by
 cases o with
 | lst xs=>obtain⟨vs,e,_⟩:=r;exact .inl ⟨vs,e⟩
 | kD xs=>exact nomatch m
 | dct kvs=>obtain⟨kws,e,_⟩:=r;exact .inr ⟨kws,e⟩
theorem k8{a:Addr}{o:PO}(g:Gr ρ H ρ' H')(k:o.fU=true->H' a=H a)(r:kO K ρ H a o):kO K ρ' H' a o:=by
 cases o with
 | lst xs=>obtain⟨vs,e,r⟩:=r;exact⟨vs,(k rfl).trans e,aw.gr g _ _ r⟩
 | kD xs=>obtain ⟨vs,e,r⟩:=r;exact ⟨vs,g.Qo e,aw.gr g _ _ r⟩
 | dct kvs=>obtain ⟨kws,e,r⟩:=r;exact ⟨kws,(k rfl).trans e,Paired.eZ g r⟩
theorem Gr.new {p : Addr} {o : HO} (hp : H p = none) (l : List Addr) : Gr ρ H (ρ ++ l) (upd H p o) :=
  ⟨λn a e => by rw [List.getElem?_append_left (List.getElem?_eq_some_iff.mp e).1]; exact e,
   λa xs e => by rw [aB (aD e hp)]; exact e, λa o u e => by rw [aB (aD e hp)]; exact e⟩
theorem Gr.uS {p:Addr} {o:HO} (hp:H p=none):Gr ρ H ρ (upd H p o):=by simpa using Gr.new (ρ := ρ) (o:=o) hp []
theorem dc.tup (s:dc K ρ h H) {p:Addr} {o:HO} (hp:H p=none):dc K ρ h (upd H p o) :=
 ⟨s.len,s.nd,λi x a e1 e2=>k8 (Gr.uS hp) (λm=>by
  have:=iB m (s.ob i x a e1 e2);refine aB ?_;rcases this with⟨_,z⟩ | ⟨_,z⟩<;>exact aD z hp) (s.ob i x a e1 e2)⟩
theorem dc.new(s:dc K ρ h H){p:Addr}{ho:HO}{o:PO}(hp:H p=none)(r:kO K (ρ ++[p]) (upd H p ho) p o):dc K (ρ ++[p]) (h++[o]) (upd H p ho):=by
 have g:Gr ρ H (ρ ++[p]) (upd H p ho):=Gr.new hp [p];have old: ∀{i:Nat}{x:PO},(h++[o])[i]?=some x->(i < h.length/\h[i]?=some x)\/(i=h.length/\x=o):=λ{i x} e=>by
  rcases Nat.lt_or_ge i h.length with z | z
  . rw[List.getElem?_append_left z] at e;exact .inl ⟨z,e⟩
  . rw[List.getElem?_append_right z] at e;have:i - h.length=0:=by
     rcases Nat.eq_zero_or_pos (i - h.length) with y | y
     . exact y
     . rw[List.getElem?_eq_none (by simp;omega)] at e;exact nomatch e
    rw[this] at e;exact .inr ⟨by omega,by simpa using e.symm⟩
 have oldρ : ∀{i:Nat}{a:Addr},i < h.length->(ρ ++[p])[i]?=some a-> ρ[i]?=some a:=λ{i a} z e=>by
  rw[List.getElem?_append_left (by rw[s.len];exact z)] at e;exact e
 have newρ : ∀{a:Addr},(ρ ++[p])[h.length]?=some a->a=p:=λ{a} e=>by
  rw[<- s.len,List.getElem?_append_right (Nat.le_refl _)] at e;simpa using e.symm
 refine⟨by simp[s.len],λi j a oi oj ei ej mi mj ri rj=>?_,λi x a e1 e2=>?_⟩
 . rcases old ei with⟨zi,ei⟩ | ⟨zi,ei⟩<;>rcases old ej with⟨zj,ej⟩ | ⟨zj,ej⟩
   . exact s.nd i j a oi oj ei ej mi mj (oldρ zi ri) (oldρ zj rj)
   . subst zj;have:=iB mi (s.ob i oi a ei (oldρ zi ri));rw[newρ rj] at this;rcases this with⟨_,z⟩ | ⟨_,z⟩<;>(rw[hp] at z;exact nomatch z)
   . subst zi;have:=iB mj (s.ob j oj a ej (oldρ zj rj));rw[newρ ri] at this;rcases this with⟨_,z⟩ | ⟨_,z⟩<;>(rw[hp] at z;exact nomatch z)
   . rw[zi,zj]
 . rcases old e1 with⟨z,e⟩ | ⟨z,e⟩
   . refine k8 g (λm=>?_) (s.ob i x a e (oldρ z e2));have:=iB m (s.ob i x a e (oldρ z e2));refine aB ?_;rcases this with ⟨_,y⟩ | ⟨_,y⟩<;>exact aD y hp
   . subst z;subst e;rw [newρ e2];exact r
theorem Gr.write {a : Addr} {ho : HO} (m : (∃ vs, H a = some (.lst vs)) ∨ ∃ kws, H a = some (.dK kws)) : Gr ρ H ρ (upd H a ho) :=
  ⟨fun _ _ h => h, fun b xs e => by rw [aB]; · exact e
                                    . rintro rfl; rcases m with ⟨_, z⟩ | ⟨_, z⟩ <;> (rw [e] at z; exact nomatch z),
   fun b o u e => by rw [aB]; · exact e
                     . rintro rfl; rcases m with ⟨_, z⟩ | ⟨_, z⟩ <;> (rw [e] at z; exact nomatch z)⟩
theorem dc.write (s:dc K ρ h H) {i:Nat} {a:Addr} {ho:HO} {o o':PO} (e:h[i]?=some o) (ea: ρ[i]?=some a) (m:o.fU=true) (m':o'.fU=true) (r:kO K ρ (upd H a ho) a o') :
  dc K ρ (h.set i o') (upd H a ho):=by
 have ma:=iB m (s.ob i o a e ea);have g:Gr ρ H ρ (upd H a ho):=Gr.write ma;have hi:i < h.length:=(List.getElem?_eq_some_iff.mp e).1;have at_: ∀{j:Nat}{x:PO},(h.set i o')[j]?=some x->(j=i/\x=o')\/(j≠i/\h[j]?=some x):=λ{j x} q=>by
  by_cases z:j=i
  . subst z;rw[List.getElem?_set_self hi] at q;exact .inl ⟨rfl,by simpa using q.symm⟩
  . rw[List.getElem?_set_ne (Ne.symm z)] at q;exact .inr ⟨z,q⟩
 refine⟨by simp[s.len],λj k b oj ok ej ek mj mk rj rk=>?_,λj x b e1 e2=>?_⟩
 . rcases at_ ej with⟨zj,_⟩ | ⟨_,ej2⟩<;>rcases at_ ek with⟨zk,_⟩ | ⟨_,ek2⟩
   . rw[zj,zk]
   . rw[zj] at rj ⊢; exact s.nd _ _ b o ok e ek2 m mk rj rk
   . rw[zk] at rk ⊢; exact s.nd _ _ b oj o ej2 e mj m rj rk
   . exact s.nd j k b oj ok ej2 ek2 mj mk rj rk
 . rcases at_ e1 with⟨rfl,rfl⟩ | ⟨z,e1⟩
   . rw[ea] at e2;cases e2;exact r
   . refine k8 g (λmx=>aB λq=>z ?_) (s.ob j x b e1 e2);subst q;exact s.nd j i b x o e1 e mx m e2 ea
end
inductive RV(α :Type) where
 | ok (a: α) (h:PH) | ex (c:String) (vs:List PV) (h:PH) | no
variable{α β :Type}
noncomputable def RV.bind:RV α ->(α ->PH->RV β)->RV β
 | .ok a h,f=>f a h
 | .ex c vs h,_=> .ex c vs h
 | .no,_=> .no
theorem cL{a: α}{h:PH}{f: α ->PH->RV β}:(RV.ok a h).bind f=f a h:=rfl
theorem bind_eq{r:RV α}{f: α ->PH->RV β}{b: β}{h':PH}:r.bind f= .ok b h'↔ ∃ a h,r= .ok a h/\f a h= .ok b h':=by
 cases r with
 | ok a h=>exact⟨λe=>⟨a,h,rfl,e⟩,λ⟨a',h2,e,q⟩=>by cases e;exact q⟩
 | ex c vs h=>exact⟨λe=>(nomatch e),λ⟨_,_,e,_⟩=>(nomatch e)⟩
 | no=>exact⟨λe=>(nomatch e),λ⟨_,_,e,_⟩=>(nomatch e)⟩
theorem zJ{c:Prop}[Decidable c]{a b:RV α}{f: α ->PH->RV β}:(if c then a else b).bind f=if c then a.bind f else b.bind f:=by split<;>rfl
noncomputable def Ok(r:RV α)(Q: α ->PH->Prop):Prop:= ∃ a h,r= .ok a h/\Q a h
theorem Ok.mono{r:RV α}{Q Q': α ->PH->Prop}(h:Ok r Q)(f: ∀ a h,Q a h->Q' a h):Ok r Q':=let ⟨a,h,e,q⟩:=h;⟨a,h,e,f _ _ q⟩
abbrev CF:=String->List PV->PH->RV PV
abbrev ME:=CF->ax->PH->RV PV
abbrev MT:=CF->ax->PH->RV Bool
abbrev MA:=CF->ax->PH->RV (List PV)
inductive Fl where
 | nx (e:ax) | rt (v:PV) | bk (e:ax) | ct (e:ax)
abbrev MS:=CF->ax->PH->RV Fl
abbrev MG:=PV->ax->PH->RV ax
structure hW where
 gd:Option Nat
 items:List PV
abbrev MI:=CF->ax->PH->RV hW
structure Df where
 ps:List Str
 nl:Nat
 body:MS
structure Tb where
 fns:String->Option Df
 con:Str->Option PV
 yv:Str->Option (List (Key × PV))
noncomputable def cy(n:Nat):PH->PH->Bool
 | [],_=>true
 | _::_,[]=>false
 | o::h,o'::h'=>(decide (o=o')||(o'.i3 n&&o.fU == o'.fU))&&cy n h h'
noncomputable def settle(h:PH)(v:PV)(h':PH):RV PV:=if (v.flat&&cy h.length h h')=true then .ok v (h'.take h.length) else .ok v h'
theorem jx(n:Nat): ∀(h g:PH),cy n h (h++g)=true
 | [],g=>rfl
 | o::h,g=>by rw[List.cons_append,cy,jx n h g];simp
theorem nZ{n:Nat}{o':PO}(hu:o'.i3 n=true): ∀(h h':PH)(i:Nat)(o:PO),cy n h h'=true->h[i]?=some o->o.fU=o'.fU->cy n h (h'.set i o')=true
 | [],h',i,o,_,e,_=>by simp at e
 | a::h,[],i,o,q,_,_=>by simp[cy] at q
 | a::h,b::h',0,o,q,e,m=>by
  rw[cy,Bool.and_eq_true] at q;simp at e;subst e;rw[List.set_cons_zero,cy,q.2,hu,m];simp
 | a::h,b::h',i+1,o,q,e,m=>by
  rw[cy,Bool.and_eq_true] at q;rw[List.set_cons_succ,cy,nZ hu h h' i o q.2 (by simpa using e) m,q.1];rfl
theorem oy{n:Nat}: ∀{h h':PH},cy n h h'=true->h.length<=h'.length
 | [],h',_=>Nat.zero_le _
 | o::h,[],e=>by simp[cy] at e
 | o::h,o'::h',e=>by
  rw[cy,Bool.and_eq_true] at e;simp only[List.length_cons];exact Nat.succ_le_succ (oy e.2)
theorem pU{n:Nat}: ∀{h h':PH}{i:Nat}{o':PO},cy n h h'=true->(h'.take h.length)[i]?=some o'-> ∃ o,h[i]?=some o/\o.fU=o'.fU/\(o=o'\/o'.i3 n=true)
 | [],h',i,o',_,e=>by simp at e
 | a::h,[],i,o',q,_=>by simp[cy] at q
 | a::h,b::h',0,o',q,e=>by
  rw[cy,Bool.and_eq_true,Bool.or_eq_true,Bool.and_eq_true] at q;simp at e;subst e;refine⟨a,rfl,?_,?_⟩
  . rcases q.1 with z | z
    . rw[of_decide_eq_true z]
    . simpa using z.2
  . rcases q.1 with z | z
    . exact .inl (of_decide_eq_true z)
    . exact .inr z.1
 | a::h,b::h',i+1,o',q,e=>by
  rw[cy,Bool.and_eq_true] at q;simpa using pU q.2 (by simpa using e)
noncomputable def run(pg:Tb):Nat->CF
 | 0,_,_,_=> .no
 | k+1,f,vs,h=>match pg.fns f with
  | none=> .no
  | some d=>if vs.length=d.ps.length then
    (match d.body (run pg k) (vs.map some++List.replicate d.nl none) h with
    | .ok (.rt v) h'=>settle h v h'
    | .ok (.nx _) h'=>settle h .non h'
    | .ok _ _=> .no
    | .ex c us h'=> .ex c us h'
    | .no=> .no)
   else .no
noncomputable def dF(K:PySem.W.Frag)(ρ :List Addr)(H:Hp)(v:PV)(h':PH)(Q:VK):Prop:= ∀ v' ρ' H',Gr ρ H ρ' H'->dc K ρ' h' H'->rel K ρ' H' v v'->Q v' H'
noncomputable def lH(K:PySem.W.Frag)(ρ :List Addr)(H:Hp)(h':PH)(Q:Hp->Prop):Prop:= ∀ ρ' H',Gr ρ H ρ' H'->dc K ρ' h' H'->Q H'
noncomputable def wM (K:PySem.W.Frag) (ρ :List Addr) (H:Hp) (vs:List PV) (h':PH) (Q:List V->Hp->Prop):Prop:= ∀ us ρ' H',Gr ρ H ρ' H'->dc K ρ' h' H'->aw K ρ' H' vs us->Q us H'
structure dS (K:PySem.W.Frag) (ρ :List Addr) (H:Hp) (e:ax) (σ :L2.St):Prop where
 len:e.length= σ.length
 get: ∀ (i:Nat) (v:PV),e[i]?=some (some v)-> ∃ v', σ[i]?=some (some v')∧rel K ρ H v v'
noncomputable def fE (K:PySem.W.Frag) (ρ :List Addr) (H:Hp) (e':ax) (h':PH) (Q:L2.St->Hp->Prop):Prop:= ∀ σ' ρ' H',Gr ρ H ρ' H'->dc K ρ' h' H'->dS K ρ' H' e' σ'->Q σ' H'
noncomputable def we (K:PySem.W.Frag) (ρ :List Addr) (H:Hp) (D:Ends) (h':PH):Fl->Prop
 | .nx e=>fE K ρ H e h' D.nx
 | .bk e=>fE K ρ H e h' D.bk
 | .ct e=>fE K ρ H e h' D.ct
 | .rt v=>dF K ρ H v h' D.rt
section
variable{K:PySem.W.Frag}{ρ ρ1:List Addr}{H H1:Hp}{h':PH}
theorem dS.gr{e:ax}{σ :L2.St}(r:dS K ρ H e σ)(g:Gr ρ H ρ1 H1):dS K ρ1 H1 e σ :=⟨r.len,λi v q=>let ⟨v',a,b⟩:=r.get i v q;⟨v',a,rel.gr g _ _ b⟩⟩
theorem dS.set{e:ax}{σ :L2.St}{v:PV}{v':V}(r:dS K ρ H e σ)(i:Nat)(h:rel K ρ H v v'):dS K ρ H (e.set i (some v)) (σ.set i (some v')):=by
 refine⟨by simp[r.len],λj x q=>?_⟩;by_cases z:j=i
 . subst z;have hj:j < e.length:=by
    have:=(List.getElem?_eq_some_iff.mp q).1;simpa using this
   rw[List.getElem?_set_self hj] at q;cases q;exact⟨v',List.getElem?_set_self (by rw[<- r.len];exact hj),h⟩
 . rw[List.getElem?_set_ne (Ne.symm z)] at q ⊢;exact r.get j x q
theorem dS.more{e:ax}{σ :L2.St}(r:dS K ρ H e σ)(k:Nat):dS K ρ H (e++List.replicate k none) (σ ++List.replicate k none):=by
 refine⟨by simp[r.len],λj x q=>?_⟩;rcases Nat.lt_or_ge j e.length with z | z
 . rw[List.getElem?_append_left z] at q;rw[List.getElem?_append_left (by rw[<- r.len];exact z)];exact r.get j x q
 . rw[List.getElem?_append_right z,List.getElem?_replicate] at q;split at q<;>exact nomatch q
theorem dF.gr{v:PV}{Q:VK}(p:dF K ρ H v h' Q)(g:Gr ρ H ρ1 H1):dF K ρ1 H1 v h' Q:=λv' ρ' H' g'=>p v' ρ' H' (g.trans g')
theorem lH.gr{Q:Hp->Prop}(p:lH K ρ H h' Q)(g:Gr ρ H ρ1 H1):lH K ρ1 H1 h' Q:=fun ρ' H' g'=>p ρ' H' (g.trans g')
theorem wM.gr{vs:List PV}{Q:List V->Hp->Prop}(p:wM K ρ H vs h' Q)(g:Gr ρ H ρ1 H1):wM K ρ1 H1 vs h' Q:=λv' ρ' H' g'=>p v' ρ' H' (g.trans g')
theorem fE.gr{e:ax}{Q:L2.St->Hp->Prop}(p:fE K ρ H e h' Q)(g:Gr ρ H ρ1 H1):fE K ρ1 H1 e h' Q:=λv' ρ' H' g'=>p v' ρ' H' (g.trans g')
theorem we.gr{D:Ends}{f:Fl}(p:we K ρ H D h' f)(g:Gr ρ H ρ1 H1):we K ρ1 H1 D h' f:=by
 cases f with
 | nx e=>exact fE.gr p g
 | bk e=>exact fE.gr p g
 | ct e=>exact fE.gr p g
 | rt e=>exact dF.gr p g
end
noncomputable def SE(c:CF)(K:PySem.W.Frag)(t:TE)(m:ME):Prop:= ∀ ρ h H e σ Q v h',dc K ρ h H->dS K ρ H e σ ->m c e h= .ok v h'->dF K ρ H v h' Q->t σ H Q
noncomputable def ST(c:CF)(K:PySem.W.Frag)(t:TT)(m:MT):Prop:= ∀ ρ h H e σ Q b h',dc K ρ h H->dS K ρ H e σ ->m c e h= .ok b h'->lH K ρ H h' (Q b)->t σ H Q
noncomputable def SA(c:CF)(K:PySem.W.Frag)(t:TA)(m:MA):Prop:= ∀ ρ h H e σ Q vs h',dc K ρ h H->dS K ρ H e σ ->m c e h= .ok vs h'->wM K ρ H vs h' Q->t σ H Q
noncomputable def SS(c:CF)(K:PySem.W.Frag)(t:TS)(m:MS):Prop:= ∀ ρ h H e σ D f h',dc K ρ h H->dS K ρ H e σ ->m c e h= .ok f h'->we K ρ H D h' f->t D σ H
noncomputable def SG(K:PySem.W.Frag)(t:TG)(m:MG):Prop:= ∀ ρ h H e σ Q v v' e' h',dc K ρ h H->dS K ρ H e σ ->rel K ρ H v v'->m v e h= .ok e' h'->fE K ρ H e' h' Q->t v' σ H Q
noncomputable def hW.fH(it:hW)(h:PH):Bool:=match it.gd with
 | none=>true
 | some n=>decide (h[n]?=some (.lst it.items)\/h[n]?=some (.kD it.items))
noncomputable def PB(K:PySem.W.Frag)(ρ0:List Addr)(H0:Hp)(J:It)(it:hW):Prop:= ∀ i ρ h H,Gr ρ0 H0 ρ H->dc K ρ h H->it.fH h=true ->
 (∀ x,it.items[i]?=some x->J.go i H∧ ∀ v H',J.K5 i H v H'-> ∃ ρ',Gr ρ H ρ' H'∧dc K ρ' h H'∧rel K ρ' H' x v)∧(i=it.items.length->J.stop i H)
noncomputable def SI (c:CF) (K:PySem.W.Frag) (t:TI) (m:MI):Prop:= ∀ ρ h H e σ R it h',dc K ρ h H->dS K ρ H e σ ->m c e h= .ok it h'->(∀ ρ' H' J,Gr ρ H ρ' H'->dc K ρ' h' H'->PB K ρ' H' J it->R J H')->t σ H R
noncomputable def uG (K:PySem.W.Frag) (pg:Tb) (k:Nat) (f:String):Sp:=λvs H Q _=> ∃ ρ h args v h',dc K ρ h H∧aw K ρ H args vs∧run pg k f args h= .ok v h'∧dF K ρ H v h' Q
noncomputable def iC:List Str:=["len", "range", "isinstance", "int", "bool", "tuple", "dict", "sorted", "min", "max", "abs", "all", "any", "sum", "str", "list", "zip", "set", "repr", "enumerate"]
structure dh (X:Cx) (pg:Tb) (k:Nat):Prop where
 room:dG k X.A
 calm:X.calm=true
 oR: ∀ v s,¬ X.xe v s
 defs: ∀ f d,pg.fns f=some d->iq X.prog X.w X.K X.mg X.base (Str.ofString f) k d.ps (uG X.K pg k f)
 blt: ∀ x∈iC,X.mg x=none
 con: ∀ x v,pg.con x=some v-> ∃ u v',X.mg x=some u/\RelV v' u/\ ∀ ρ H,rel X.K ρ H v v'
 yv: ∀ x kvs,pg.yv x=some kvs-> ∃ a kws,X.mg x=some (.ref a)/\KD X.prog X.w X.K a kws/\ ∀ ρ H,Paired (λ(p:Key × PV) (q:Key × V)=>p.1=q.1/\rel X.K ρ H p.2 q.2) kvs kws
theorem dh.fI{X:Cx}{pg:Tb}{k:Nat}(a:dh X pg k)(vars:List Str)(scope:Scope)(cl:List (Str × Addr))(C:Addr)(s₀ :Shared)(H₀ :Hp)(ex:List Addr)(pn:List (Addr × Obj)):dh (fI X vars scope cl C s₀ H₀ ex pn) pg k :=
 ⟨a.room,a.calm,a.oR,a.defs,a.blt,a.con,a.yv⟩
structure JE(X:Cx)(pg:Tb)(k:Nat)(e:Expr)(m:ME):Prop where h:dh X pg k-> ∃ t,QE X e t/\SE (run pg k) X.K t m
structure JT(X:Cx)(pg:Tb)(k:Nat)(e:Expr)(m:MT):Prop where h:dh X pg k-> ∃ t,QT X e t/\ST (run pg k) X.K t m
structure JW(X:Cx)(pg:Tb)(k:Nat)(e:Expr)(m:MT):Prop where h:dh X pg k-> ∃ t,QW X e t/\ST (run pg k) X.K t m
structure JA(X:Cx)(pg:Tb)(k:Nat)(e:List Expr)(m:MA):Prop where h:dh X pg k-> ∃ t,QA X e t/\SA (run pg k) X.K t m
structure JS(X:Cx)(pg:Tb)(k:Nat)(s:Stmt)(m:MS):Prop where h:dh X pg k-> ∃ t,QS X s t/\SS (run pg k) X.K t m
structure wZ(X:Cx)(pg:Tb)(k:Nat)(s:List Stmt)(m:MS):Prop where h:dh X pg k-> ∃ t,zv X s t/\SS (run pg k) X.K t m
structure JG(X:Cx)(pg:Tb)(k:Nat)(e:Expr)(m:MG):Prop where h:dh X pg k-> ∃ t,QG X e t/\SG X.K t m
structure JI(X:Cx)(pg:Tb)(k:Nat)(tg e:Expr)(m:MI):Prop where h:dh X pg k-> ∃ t,QI X tg e t/\SI (run pg k) X.K t m
structure JF(X:Cx)(pg:Tb)(k:Nat)(es:List Expr)(m:MT):Prop where h:dh X pg k-> ∃ t,QF X es t/\ST (run pg k) X.K t m
noncomputable def lQ(K:PySem.W.Frag)(r:R2)(f:PV->PV->PH->RV PV):Prop:= ∀ ρ h H x y x' y' Q v h',dc K ρ h H->rel K ρ H x x'->rel K ρ H y y'->f x y h= .ok v h'->dF K ρ H v h' Q->r x' y' H Q
noncomputable def yp(K:PySem.W.Frag)(r:List V->Hp->VK->Prop)(f:List PV->PH->RV PV):Prop:= ∀ ρ h H xs us Q v h',dc K ρ h H->aw K ρ H xs us->f xs h= .ok v h'->dF K ρ H v h' Q->r us H Q
noncomputable def Og(K:PySem.W.Frag)(T:String)(r:V->List V->Hp->VK->Prop)(f:PV->List PV->PH->RV PV)(ty:PV->PH->Bool):Prop :=
 (∀ ρ h H x x',dc K ρ h H->rel K ρ H x x'->ty x h=true->Mj K T x' H) /\
 ∀ ρ h H x x' xs us Q v h',dc K ρ h H->rel K ρ H x x'->aw K ρ H xs us->f x xs h= .ok v h'->dF K ρ H v h' Q->r x' us H Q
noncomputable def ab(i:Nat):ME:=λ_ e h=>match e[i]? with
 | some (some v)=> .ok v h
 | _=> .no
noncomputable def eC(v:PV):ME:=λ_ _ h=> .ok v h
noncomputable def ag(f:PV->PV->PH->RV PV)(a b:ME):ME:=λc e h=>(a c e h).bind λx h1=>(b c e h1).bind λy h2=>f x y h2
noncomputable def oH(f:PV->PH->RV PV)(a:ME):ME:=λc e h=>(a c e h).bind f
noncomputable def wc(v:PV)(h:PH):RV Bool:=match v with
 | .bl b=> .ok b h
 | _=> .no
noncomputable def jL(a b:ME):ME:=λc e h=>((a c e h).bind wc).bind λx h1=>if x=true then b c e h1 else .ok (.bl false) h1
noncomputable def MK(a b:ME):ME:=λc e h=>((a c e h).bind wc).bind λx h1=>if x=true then .ok (.bl true) h1 else b c e h1
noncomputable def y7(a:ME):ME:=λc e h=>((a c e h).bind wc).bind λx h1=> .ok (.bl (!x)) h1
noncomputable def BQ(t:MT)(a b:ME):ME:=λc e h=>(t c e h).bind λx h1=>if x=true then a c e h1 else b c e h1
noncomputable def aq(a:ME):MT:=λc e h=>(a c e h).bind wc
noncomputable def kF(a b:MT):MT:=λc e h=>(a c e h).bind λx h1=>if x=true then b c e h1 else .ok false h1
noncomputable def zW(a b:MT):MT:=λc e h=>(a c e h).bind λx h1=>if x=true then .ok true h1 else b c e h1
noncomputable def oP(a:MT):MT:=λc e h=>(a c e h).bind λx h1=> .ok (!x) h1
noncomputable def fm:MT:=λ_ _ h=> .ok true h
noncomputable def ae:MA:=λ_ _ h=> .ok [] h
noncomputable def aa(a:ME)(r:MA):MA:=λc e h=>(a c e h).bind λx h1=>(r c e h1).bind λxs h2=> .ok (x::xs) h2
noncomputable def kr(n:Nat)(r:RV α):RV α :=if n<=sizeLine then r else .no
noncomputable def aA(r:MA):ME:=λc e h=>(r c e h).bind λxs h1=>kr xs.length (.ok (.tup xs) h1)
noncomputable def aH(r:MA):ME:=λc e h=>(r c e h).bind λxs h1=>kr xs.length (.ok (.ref h1.length) (h1++[.lst xs]))
noncomputable def ah(f:String)(r:MA):ME:=λc e h=>(r c e h).bind λxs h1=>c f xs h1
noncomputable def eB(f:List PV->PH->RV PV)(r:MA):ME:=λc e h=>(r c e h).bind f
noncomputable def eM(f:PV->List PV->PH->RV PV)(ty:PV->PH->Bool)(a:ME)(r:MA):ME:=λc e h=>(a c e h).bind λx h1=>if ty x h1=true then(r c e h1).bind λxs h2=>f x xs h2 else .no
noncomputable def mW(f g:PV->PV->PH->RV PV)(a b d:ME):ME:=λc e h=>(a c e h).bind λx h1=>(b c e h1).bind λy h2=>((f x y h2).bind wc).bind λk h3=>if k=true then(d c e h3).bind λz h4=>g y z h4 else .ok (.bl false) h3
theorem jo{n:Nat}{r:RV α}{a: α}{h:PH}:kr n r= .ok a h↔n<=sizeLine/\r= .ok a h:=by
 unfold kr;split
 . exact⟨λe=>⟨by assumption,e⟩,λe=>e.2⟩
 . exact⟨λe=>(nomatch e),λe=>absurd e.1 (by assumption)⟩
theorem nz{v:PV}{h h':PH}{b:Bool}:wc v h= .ok b h'↔v= .bl b/\h'=h:=by
 cases v<;>simp[wc,eq_comm]
section
variable{X:Cx}{pg:Tb}{k:Nat}{a b c d e:Expr}{es:List Expr}{ma mb mc md:ME}{mr:MA}{mt mt':MT}{pos p pos' apos cpos:Pos}{x:Str}
theorem JN(i:Nat){x:Str}{pos:Pos}(hN:X.N[i]?=some x:=by rfl)(hv:Hv X.env.scope x:=by first | exact Or.inl rfl | exact Or.inr (Or.inl rfl) | exact Or.inr (Or.inr rfl))(hd:(x == ("__debug__" :Str))=false:=by decide)
  (hcd:(x == ("__classdict__" :Str))=false:=by decide):JE X pg k (.Name x pos) (ab i):=⟨λA=>⟨_,qv i hN hv hd hcd,fun ρ h H e σ Q v h' s r q P=>by
 unfold ab at q;split at q
 . cases q;obtain⟨v',e1,e2⟩:=r.get i v (by assumption);exact⟨v',e1,P v' ρ H (.refl _ _) s e2⟩
 . exact nomatch q⟩⟩
theorem xZ{cf:CF}{K:PySem.W.Frag}{v:PV}{v':V}(hr: ∀ ρ H,rel K ρ H v v'):SE cf K (tC v') (eC v):=fun ρ h H e σ Q w h' s r q P=>by cases q;exact P v' ρ H (.refl _ _) s (hr ρ H)
theorem GW{n:Int}{j:Nat}:JE X pg k (.Constant (.int n) j pos) (eC (.int n)):=⟨λA=>⟨_,Hg,xZ fun ρ H=>by rw[rel]⟩⟩
theorem NY{n:Bool}{j:Nat}:JE X pg k (.Constant (.bool n) j pos) (eC (.bl n)):=⟨λA=>⟨_,LS,xZ fun ρ H=>by rw[rel]⟩⟩
theorem Kw{j:Nat}:JE X pg k (.Constant .none j pos) (eC .non):=⟨λA=>⟨_,Ky,xZ fun ρ H=>by rw[rel]⟩⟩
theorem Ju{n:Str}{j:Nat}:JE X pg k (.Constant (.str n) j pos) (eC (.str n)):=⟨λA=>⟨_,G6,xZ fun ρ H=>by rw[rel]⟩⟩
theorem KH{v:PV}(hc:pg.con x=some v)(hg:Gl X x)(hd:(x == ("__debug__" :Str))=false:=by decide):JE X pg k (.Name x pos) (eC v):=⟨λA=>let ⟨u,v',e1,e2,e3⟩:=A.con x v hc;⟨_,CU hg e1 e2 hd,xZ e3⟩⟩
theorem pF{T:String}(hg:Gl X x)(hb:x∈iC)(hv:bootBuiltins x=some (.type T))(hn:x≠ "__name__" :=by decide)(hd:(x == ("__debug__" :Str))=false:=by decide):JE X pg k (.Name x pos) (eC (.ty T)) :=
 ⟨λA=>⟨_,EA (v:= .ty T) hg (A.blt x hb) hv rfl hn hd,xZ fun ρ H=>by rw[rel]⟩⟩
theorem wR{cf:CF}{K:PySem.W.Frag}{r:R2}{f:PV->PV->PH->RV PV}{ta tb:TE}(ho:lQ K r f)(ha:SE cf K ta ma)(hb:SE cf K tb mb):SE cf K (Dm r ta tb) (ag f ma mb):=fun ρ h H e σ Q v h' s r q P=>by
 obtain⟨x,h1,e1,q⟩:=bind_eq.mp q;obtain⟨y,h2,e2,q⟩:=bind_eq.mp q;refine ha ρ h H e σ _ x h1 s r e1 λx' ρ1 H1 g1 s1 r1=>?_;refine hb ρ1 h1 H1 e σ _ y h2 s1 (r.gr g1) e2 λy' ρ2 H2 g2 s2 r2=>?_;exact ho ρ2 h2 H2 x y x' y' Q v h' s2 (rel.gr g2 _ _ r1) r2 q (P.gr (g1.trans g2))
theorem NL{op:Operator}{f:PV->PV->PH->RV PV}(ho:dh X pg k-> ∃ r,di X (binaryOp op) r/\lQ X.K r f)(ha:JE X pg k a ma)(hb:JE X pg k b mb):JE X pg k (.BinOp a op b pos) (ag f ma mb):=⟨λA =>
 let ⟨_,q1,s1⟩:=ha.h A;let ⟨_,q2,s2⟩:=hb.h A;let ⟨_,q,s⟩:=ho A;⟨_,NK q q1 q2,wR s s1 s2⟩⟩
theorem zd{op:CmpOp}{f:PV->PV->PH->RV PV}(ho:dh X pg k-> ∃ r,di X (compareOp op) r/\lQ X.K r f)(ha:JE X pg k a ma)(hb:JE X pg k b mb)(hm:behindInMarks op b=false):JE X pg k (.Compare a [op] [b] pos) (ag f ma mb):=⟨λA =>
 let ⟨_,q1,s1⟩:=ha.h A;let ⟨_,q2,s2⟩:=hb.h A;let ⟨_,q,s⟩:=ho A;⟨_,CI q q1 q2 hm,wR s s1 s2⟩⟩
theorem rq{cf:CF}{K:PySem.W.Frag}{ta:TE}(ha:SE cf K ta ma):ST cf K (zf ta) (aq ma):=fun ρ h H e σ Q v h' s r q P=>by
 obtain⟨x,h1,e1,q⟩:=bind_eq.mp q;obtain⟨rfl,rfl⟩:=nz.mp q;refine ha ρ h H e σ _ _ _ s r e1 λx' ρ1 H1 g1 s1 r1=>?_;rw[rel] at r1;exact⟨v,r1,P ρ1 H1 g1 s1⟩
theorem yy{op:CmpOp}{f:PV->PV->PH->RV PV}(ho:dh X pg k-> ∃ r,di X (compareOp op) r/\lQ X.K r f)(ha:JE X pg k a ma)(hb:JE X pg k b mb)(hm:behindInMarks op b=false):JT X pg k (.Compare a [op] [b] pos) (aq (ag f ma mb)):=⟨λA =>
 let ⟨_,q1,s1⟩:=ha.h A;let ⟨_,q2,s2⟩:=hb.h A;let ⟨_,q,s⟩:=ho A;⟨_,Co q q1 q2 hm,rq (wR s s1 s2)⟩⟩
theorem J8(ha:JE X pg k e ma)(he: ∀ whole,isTrue e X.env whole=(do let v <- whole;standAt e.pos;holding [v] (truthy v)):=by intro _;rfl):JT X pg k e (aq ma):=⟨λA =>
 let ⟨_,q1,s1⟩:=ha.h A;⟨_,Hm q1 he,rq s1⟩⟩
theorem Nc{op:UnaryOp}{f:PV->PH->RV PV}(ho:dh X pg k-> ∃ r,KW X (unaryOp op) r/\ ∀ ρ h H x x' Q v h',dc X.K ρ h H->rel X.K ρ H x x'->f x h= .ok v h'->dF X.K ρ H v h' Q->r x' H Q)(ha:JE X pg k a ma):JE X pg k (.UnaryOp op a pos) (oH f ma):=⟨λA =>
 let ⟨_,q1,s1⟩:=ha.h A;let ⟨_,q,s⟩:=ho A;⟨_,MW q q1,fun ρ h H e σ Q v h' z r q P=>by
  obtain⟨x,h1,e1,q⟩:=bind_eq.mp q;exact s1 ρ h H e σ _ x h1 z r e1 λx' ρ1 H1 g1 z1 r1=>s ρ1 h1 H1 x x' Q v h' z1 r1 q (P.gr g1)⟩⟩
theorem Jz(ha:JE X pg k a ma):JE X pg k (.UnaryOp .Not a pos) (y7 ma):=⟨λA =>
 let ⟨_,q1,s1⟩:=ha.h A;⟨_,Hi q1,fun ρ h H e σ Q v h' s r q P=>by
  obtain⟨x,h2,q2,q⟩:=bind_eq.mp q;obtain⟨y,h1,e1,q2⟩:=bind_eq.mp q2;obtain⟨rfl,rfl⟩:=nz.mp q2;cases q;refine s1 ρ h H e σ _ _ _ s r e1 λx' ρ1 H1 g1 z1 r1=>?_;rw[rel] at r1;exact⟨x,r1,P _ ρ1 H1 g1 z1 (by rw[rel])⟩⟩⟩
theorem J1{op:BoolOp}(h:JE X pg k a ma):JE X pg k (.BoolOp op [a] pos) ma:=⟨λA=>let ⟨_,q1,s1⟩:=h.h A;⟨_,IV q1,s1⟩⟩
theorem Kj{rest:List Expr}(ha:JE X pg k a ma)(hb:JE X pg k (.BoolOp .And (b::rest) pos) mb):JE X pg k (.BoolOp .And (a::b::rest) pos) (jL ma mb):=⟨λA =>
 let ⟨_,q1,s1⟩:=ha.h A;let ⟨_,q2,s2⟩:=hb.h A;⟨_,Gj q1 q2,fun ρ h H e σ Q v h' s r q P=>by
  obtain⟨x,h2,q2,q⟩:=bind_eq.mp q;obtain⟨y,h1,e1,q2⟩:=bind_eq.mp q2;obtain⟨rfl,rfl⟩:=nz.mp q2;refine s1 ρ h H e σ _ _ _ s r e1 λx' ρ1 H1 g1 z1 r1=>?_;rw[rel] at r1;refine⟨x,r1,?_⟩;cases x with
  | true=>exact s2 ρ1 _ H1 e σ _ _ _ z1 (r.gr g1) q (P.gr g1)
  | false=>cases q;exact P _ ρ1 H1 g1 z1 (by rw[rel])⟩⟩
theorem NA{rest:List Expr}(ha:JE X pg k a ma)(hb:JE X pg k (.BoolOp .Or (b::rest) pos) mb):JE X pg k (.BoolOp .Or (a::b::rest) pos) (MK ma mb):=⟨λA =>
 let ⟨_,q1,s1⟩:=ha.h A;let ⟨_,q2,s2⟩:=hb.h A;⟨_,MU q1 q2,fun ρ h H e σ Q v h' s r q P=>by
  obtain⟨x,h2,q2,q⟩:=bind_eq.mp q;obtain⟨y,h1,e1,q2⟩:=bind_eq.mp q2;obtain⟨rfl,rfl⟩:=nz.mp q2;refine s1 ρ h H e σ _ _ _ s r e1 λx' ρ1 H1 g1 z1 r1=>?_;rw[rel] at r1;refine⟨x,r1,?_⟩;cases x with
  | false=>exact s2 ρ1 _ H1 e σ _ _ _ z1 (r.gr g1) q (P.gr g1)
  | true=>cases q;exact P _ ρ1 H1 g1 z1 (by rw[rel])⟩⟩
theorem Bz(hc:JT X pg k c mt)(ha:JE X pg k a ma)(hb:JE X pg k b mb):JE X pg k (.IfExp c a b pos) (BQ mt ma mb):=⟨λA =>
 let ⟨_,q0,s0⟩:=hc.h A;let ⟨_,q1,s1⟩:=ha.h A;let ⟨_,q2,s2⟩:=hb.h A;⟨_,Ar q0 q1 q2,fun ρ h H e σ Q v h' s r q P=>by
  obtain⟨x,h1,e1,q⟩:=bind_eq.mp q;refine s0 ρ h H e σ _ _ _ s r e1 fun ρ1 H1 g1 z1=>?_;cases x with
  | true=>exact s1 ρ1 _ H1 e σ _ _ _ z1 (r.gr g1) q (P.gr g1)
  | false=>exact s2 ρ1 _ H1 e σ _ _ _ z1 (r.gr g1) q (P.gr g1)⟩⟩
theorem Ej(ha:JT X pg k a mt):JW X pg k (.BoolOp .And [a] pos) mt:=⟨λA=>let ⟨_,q1,s1⟩:=ha.h A;⟨_,E5 q1,s1⟩⟩
theorem Ik(ha:JT X pg k a mt):JW X pg k (.BoolOp .Or [a] pos) mt:=⟨λA=>let ⟨_,q1,s1⟩:=ha.h A;⟨_,Hc q1,s1⟩⟩
theorem yQ{rest:List Expr}(ha:JT X pg k a mt)(hb:JW X pg k (.BoolOp .And (b::rest) pos) mt'):JW X pg k (.BoolOp .And (a::b::rest) pos) (kF mt mt'):=⟨λA =>
 let ⟨_,q1,s1⟩:=ha.h A;let ⟨_,q2,s2⟩:=hb.h A;⟨_,JQ q1 q2,fun ρ h H e σ Q v h' s r q P=>by
  obtain⟨x,h1,e1,q⟩:=bind_eq.mp q;refine s1 ρ h H e σ _ _ _ s r e1 fun ρ1 H1 g1 z1=>?_;cases x with
  | true=>exact s2 ρ1 _ H1 e σ _ _ _ z1 (r.gr g1) q (P.gr g1)
  | false=>cases q;exact P ρ1 H1 g1 z1⟩⟩
theorem FL{rest:List Expr}(ha:JT X pg k a mt)(hb:JW X pg k (.BoolOp .Or (b::rest) pos) mt'):JW X pg k (.BoolOp .Or (a::b::rest) pos) (zW mt mt'):=⟨λA =>
 let ⟨_,q1,s1⟩:=ha.h A;let ⟨_,q2,s2⟩:=hb.h A;⟨_,Nk q1 q2,fun ρ h H e σ Q v h' s r q P=>by
  obtain⟨x,h1,e1,q⟩:=bind_eq.mp q;refine s1 ρ h H e σ _ _ _ s r e1 fun ρ1 H1 g1 z1=>?_;cases x with
  | false=>exact s2 ρ1 _ H1 e σ _ _ _ z1 (r.gr g1) q (P.gr g1)
  | true=>cases q;exact P ρ1 H1 g1 z1⟩⟩
theorem JW.pt(h:JW X pg k e mt):JT X pg k e mt:=⟨λA=>let ⟨_,q1,s1⟩:=h.h A;⟨_,q1.pt,s1⟩⟩
theorem Gz(ha:JT X pg k a mt):JT X pg k (.UnaryOp .Not a pos) (oP mt):=⟨λA=>let ⟨_,q1,s1⟩:=ha.h A;⟨_,Jm q1,fun ρ h H e σ Q v h' s r q P=>by
  obtain⟨x,h1,e1,q⟩:=bind_eq.mp q;cases q;exact s1 ρ h H e σ _ _ _ s r e1 fun ρ1 H1 g1 z1=>P ρ1 H1 g1 z1⟩⟩
theorem Jv:JF X pg k [] fm:=⟨λA=>⟨_,He,fun ρ h H e σ Q v h' s r q P=>by cases q;exact P ρ H (.refl _ _) s⟩⟩
theorem Ga(h:JT X pg k c mt):JF X pg k [c] mt:=⟨λA=>let ⟨_,q1,s1⟩:=h.h A;⟨_,Kv q1,s1⟩⟩
theorem Ht:JA X pg k [] ae:=⟨λA=>⟨_,vd,fun ρ h H e σ Q v h' s r q P=>by cases q;exact P [] ρ H (.refl _ _) s (aN.mpr rfl)⟩⟩
theorem E1(ha:JE X pg k e ma)(hr:JA X pg k es mr)(hs:noStar e=true:=by rfl):JA X pg k (e::es) (aa ma mr):=⟨λA =>
 let ⟨_,q1,s1⟩:=ha.h A;let ⟨_,q2,s2⟩:=hr.h A;⟨_,qk q1 q2 hs,fun ρ h H e σ Q v h' s r q P=>by
  obtain⟨x,h1,e1,q⟩:=bind_eq.mp q;obtain⟨xs,h2,e2,q⟩:=bind_eq.mp q;cases q;refine s1 ρ h H e σ _ _ _ s r e1 λx' ρ1 H1 g1 z1 r1=>?_;refine s2 ρ1 h1 H1 e σ _ _ _ z1 (r.gr g1) e2 λus ρ2 H2 g2 z2 r2=>?_;exact P _ ρ2 H2 (g1.trans g2) z2 (aC.mpr ⟨x',us,rfl,rel.gr g2 _ _ r1,r2⟩)⟩⟩
theorem JD{x1}(h:JA X pg k es mr):JE X pg k (.Tuple es x1 pos) (aA mr):=⟨λA =>
 let ⟨_,q1,s1⟩:=h.h A;⟨_,Ks q1,fun ρ h H e σ Q v h' s r q P=>by
  obtain⟨xs,h1,e1,q⟩:=bind_eq.mp q;obtain⟨hl,q⟩:=jo.mp q;cases q;refine s1 ρ h H e σ _ _ _ s r e1 λus ρ1 H1 g1 z1 r1=>⟨by rw[<- r1.len];exact hl,λp hp=>?_⟩
  refine P _ ρ1 _ (g1.trans (Gr.uS hp)) (z1.tup hp) ?_;rw[rel];exact⟨p,us,rfl,bc,aw.gr (Gr.uS hp) _ _ r1⟩⟩⟩
theorem d8{K:PySem.W.Frag}{ρ :List Addr}{h:PH}{H:Hp}{xs:List PV}{us:List V}{Q:VK}(s:dc K ρ h H)(r:aw K ρ H xs us)(P:dF K ρ H (.ref h.length) (h++[.lst xs]) Q)(p:Addr)(hp:H p=none):Q (.ref p) (upd H p (.lst us)):=by
 refine P _ (ρ ++[p]) _ (Gr.new hp [p]) (s.new hp ⟨us,bc,aw.gr (Gr.new hp [p]) _ _ r⟩) ?_;rw[rel];exact⟨p,by rw[<- s.len,List.getElem?_append_right (Nat.le_refl _)];simp,rfl⟩
theorem HC(h:JA X pg k es mr):JE X pg k (.List es pos) (aH mr):=⟨λA =>
 let ⟨_,q1,s1⟩:=h.h A;⟨_,GZ q1,fun ρ h H e σ Q v h' s r q P=>by
  obtain⟨xs,h1,e1,q⟩:=bind_eq.mp q;obtain⟨hl,q⟩:=jo.mp q;cases q;exact s1 ρ h H e σ _ _ _ s r e1 λus ρ1 H1 g1 z1 r1=>⟨by rw[<- r1.len];exact hl,λp hp=>d8 z1 r1 (P.gr g1) p hp⟩⟩⟩
theorem E6{f:String}{d:Df}(hf:pg.fns f=some d)(hg:Gl X (Str.ofString f))(ha:JA X pg k (e::es) mr)(hdb:(Str.ofString f == ("__debug__" :Str))=false:=by decide)(he:noStar e=true:=by rfl)(hpl:es.all noStar=true:=by rfl) :
  JE X pg k (.Call (.Name (Str.ofString f) p) (e::es) [] pos) (ah f mr):=⟨λA =>
 let ⟨_,q1,s1⟩:=ha.h A;⟨_,qd (A.defs f d hf) A.room hg (Nat.le_refl _) q1 hdb he hpl,fun ρ h H e σ Q v h' s r q P=>by
  obtain⟨xs,h1,e1,q⟩:=bind_eq.mp q;refine s1 ρ h H e σ _ _ _ s r e1 λus ρ1 H1 g1 z1 r1=>?_;rw[List.append_nil];exact⟨ρ1,h1,xs,v,h',z1,r1,q,P.gr g1⟩⟩⟩
theorem Nq{cf:CF}{K:PySem.W.Frag}{r:List V->Hp->VK->Prop}{f:List PV->PH->RV PV}{ta:TA}(ho:yp K r f)(ha:SA cf K ta mr):SE cf K (Hk r ta) (eB f mr):=fun ρ h H e σ Q v h' s r q P=>by
 obtain⟨xs,h1,e1,q⟩:=bind_eq.mp q;exact ha ρ h H e σ _ _ _ s r e1 λus ρ1 H1 g1 z1 r1=>ho ρ1 h1 H1 xs us Q v h' z1 r1 q (P.gr g1)
theorem B0{id:String}{f:List PV->PH->RV PV}(hc:dh X pg k-> ∃ r,aZ X (.builtin id) r/\yp X.K r f)(hg:Gl X x)(hb:x∈iC)(hv:bootBuiltins x=some (.builtin id))(ha:JA X pg k (e::es) mr)
  (hn:x≠ "__name__" :=by decide) (hdb:(x == ("__debug__" :Str))=false:=by decide) (he:noStar e=true:=by rfl) (hpl:es.all noStar=true:=by rfl):JE X pg k (.Call (.Name x p) (e::es) [] pos) (eB f mr):=⟨λA =>
 let ⟨_,q1,s1⟩:=ha.h A;let ⟨_,q,s⟩:=hc A;⟨_,qB q hg (A.blt x hb) hv q1 hn hdb he hpl,Nq s s1⟩⟩
theorem DI{T:String}{f:List PV->PH->RV PV}(hc:dh X pg k-> ∃ r,aZ X (.type T) r/\yp X.K r f)(hg:Gl X x)(hb:x∈iC)(hv:bootBuiltins x=some (.type T))(ha:JA X pg k (e::es) mr)
  (hn:x≠ "__name__" :=by decide) (hdb:(x == ("__debug__" :Str))=false:=by decide) (he:noStar e=true:=by rfl) (hpl:es.all noStar=true:=by rfl):JE X pg k (.Call (.Name x p) (e::es) [] pos) (eB f mr):=⟨λA =>
 let ⟨_,q1,s1⟩:=ha.h A;let ⟨_,q,s⟩:=hc A;⟨_,qT q hg (A.blt x hb) hv q1 hn hdb he hpl,Nq s s1⟩⟩
theorem Hn{name:Str}{id T:String}{f:PV->List PV->PH->RV PV}{ty:PV->PH->Bool}(pa:PlainAttrs T)(slot:Slot T name id)(hty:typeOf (.builtin id)=pure (.type "method_descriptor"))(hm:dh X pg k-> ∃ r,FK X id r/\Og X.K T r f ty)
  (ho:JE X pg k d md) (ha:JA X pg k [e] mr) (hbase:attributeBase d name X.env (eval d X.env)=eval d X.env:=by rfl) (hline:(apos.endLine == cpos.line)=true:=by rfl) (hs:noStar e=true:=by rfl) :
  JE X pg k (.Call (.Attribute d name apos) [e] [] cpos) (eM f ty md mr):=⟨λA =>
 let ⟨_,q0,s0⟩:=ho.h A;let ⟨_,q1,s1⟩:=ha.h A;let ⟨_,q,s⟩:=hm A;⟨_,MD pa slot hty q q0 q1 hbase hline hs,fun ρ h H e σ Q v h' z r q P=>by
  obtain⟨x,h1,e1,q⟩:=bind_eq.mp q;refine s0 ρ h H e σ _ _ _ z r e1 λx' ρ1 H1 g1 z1 r1=>?_;split at q
  . rename_i ht;obtain⟨xs,h2,e2,q⟩:=bind_eq.mp q;refine⟨s.1 ρ1 h1 H1 x x' z1 r1 ht,?_⟩;exact s1 ρ1 h1 H1 e σ _ _ _ z1 (r.gr g1) e2 λus ρ2 H2 g2 z2 r2=>s.2 ρ2 h2 H2 x x' xs us Q v h' z2 (rel.gr g2 _ _ r1) r2 q (P.gr (g1.trans g2))
  . exact nomatch q⟩⟩
theorem AF{cf:CF}{K:PySem.W.Frag}{r r':R2}{f g:PV->PV->PH->RV PV}{ta tb tc:TE}(ho:lQ K r f)(ho':lQ K r' g)(ha:SE cf K ta ma)(hb:SE cf K tb mb)(hc:SE cf K tc mc):SE cf K (uB r r' ta tb tc) (mW f g ma mb mc):=fun ρ h H e σ Q v h' s r q P=>by
 obtain⟨x,h1,e1,q⟩:=bind_eq.mp q;obtain⟨y,h2,e2,q⟩:=bind_eq.mp q;obtain⟨z,h3,e3,q⟩:=bind_eq.mp q;obtain⟨z0,h4,e4,e5⟩:=bind_eq.mp e3;obtain⟨rfl,rfl⟩:=nz.mp e5;refine ha ρ h H e σ _ x h1 s r e1 λx' ρ1 H1 g1 s1 r1=>?_;refine hb ρ1 h1 H1 e σ _ y h2 s1 (r.gr g1) e2 λy' ρ2 H2 g2 s2 r2=>?_;refine ho ρ2 h2 H2 x y x' y' _ _ _ s2 (rel.gr g2 _ _ r1) r2 e4 λz' ρ3 H3 g3 s3 r3=>?_;rw[rel] at r3;refine⟨z,r3,?_⟩;cases z with
 | true =>
  obtain⟨w,h5,e5,q⟩:=bind_eq.mp q
  refine hc ρ3 _ H3 e σ _ w h5 s3 (r.gr ((g1.trans g2).trans g3)) e5 λw' ρ4 H4 g4 s4 r4=>?_
  exact ho' ρ4 h5 H4 y w y' w' Q v h' s4 (rel.gr (g3.trans g4) _ _ r2) r4 q (P.gr (((g1.trans g2).trans g3).trans g4))
 | false=>cases q;exact P _ ρ3 H3 ((g1.trans g2).trans g3) s3 (by rw[rel])
theorem Ae{op op':CmpOp}{f g:PV->PV->PH->RV PV}(ho:dh X pg k-> ∃ r,di X (compareOp op) r/\lQ X.K r f)(ho':dh X pg k-> ∃ r,di X (compareOp op') r/\lQ X.K r g)(ha:JE X pg k a ma)(hb:JE X pg k b mb)(hc:JE X pg k c mc)
  (hm:lastMarks [op,op'] [b,c]=false:=by with_unfolding_all rfl):JE X pg k (.Compare a [op,op'] [b,c] pos) (mW f g ma mb mc):=⟨λA =>
 let ⟨_,q1,s1⟩:=ha.h A;let ⟨_,q2,s2⟩:=hb.h A;let ⟨_,q3,s3⟩:=hc.h A;let ⟨_,q,s⟩:=ho A;let ⟨_,q',s'⟩:=ho' A;⟨_,yz q q' q1 q2 q3 hm,AF s s' s1 s2 s3⟩⟩
end
noncomputable def bA:MS:=λ_ e h=> .ok (.nx e) h
noncomputable def ai(a b:MS):MS:=λc e h=>(a c e h).bind λf h1=>match f with
 | .nx e1=>b c e1 h1
 | f=> .ok f h1
noncomputable def fT(a:ME):MS:=λc e h=>(a c e h).bind λ_ h1=> .ok (.nx e) h1
noncomputable def az(a:ME):MS:=λc e h=>(a c e h).bind λv h1=> .ok (.rt v) h1
noncomputable def bt(t:MT)(a b:MS):MS:=λc e h=>(t c e h).bind λx h1=>if x=true then a c e h1 else b c e h1
noncomputable def ak(a:ME)(g:MG):MS:=λc e h=>(a c e h).bind λv h1=>(g v e h1).bind λe1 h2=> .ok (.nx e1) h2
noncomputable def gN(i:Nat):MG:=λv e h=> .ok (e.set i (some v)) h
noncomputable def gT(n:Nat)(g:List PV->ax->PH->RV ax):MG:=λv e h=>match v.seq? with
 | some xs=>if xs.length=n then g xs e h else .no
 | none=> .no
noncomputable def dA:List PV->ax->PH->RV ax:=λvs e h=>match vs with
 | []=> .ok e h
 | _=> .no
noncomputable def aG(g:MG)(r:List PV->ax->PH->RV ax):List PV->ax->PH->RV ax:=λvs e h=>match vs with
 | []=> .no
 | v::t=>(g v e h).bind λe1 h1=>r t e1 h1
noncomputable def jR(f:PV->PV->PV->PH->RV Unit)(o i a:ME):MS:=λc e h=>(a c e h).bind λv h1=>(o c e h1).bind λx h2=>(i c e h2).bind λy h3=>(f x y v h3).bind λ_ h4=> .ok (.nx e) h4
noncomputable def bF(it:hW)(step:PV->ax->PH->RV Fl):List PV->ax->PH->RV Fl
 | [],e,h=>if it.fH h=true then .ok (.nx e) h else .no
 | x::xs,e,h=>if it.fH h=true then(step x e h).bind (λf h1=>match f with
   | .nx e1=>bF it step xs e1 h1
   | .ct e1=>bF it step xs e1 h1
   | .bk e1=> .ok (.nx e1) h1
   | .rt v=> .ok (.rt v) h1) else .no
noncomputable def gp(i:MI)(g:MG)(b:MS):MS:=λc e h=>(i c e h).bind λit h1=>bF it (λx e h=>(g x e h).bind λe1 h1=>b c e1 h1) it.items e h1
noncomputable def dH(t:ax->PH->RV Bool)(b:ax->PH->RV Fl):Nat->ax->PH->RV Fl
 | 0,_,_=> .no
 | n+1,e,h=>(t e h).bind λx h1=>if x=true then(b e h1).bind (λf h2=>match f with
   | .nx e1=>dH t b n e1 h2
   | .ct e1=>dH t b n e1 h2
   | .bk e1=> .ok (.nx e1) h2
   | .rt v=> .ok (.rt v) h2) else .ok (.nx e) h1
noncomputable def qy(t:MT)(b:MS):MS:=λc e h=>dH (t c) (b c) 100000 e h
noncomputable def jK(it:hW)(step:PV->PH->RV (Option PV)):List PV->List PV->PH->RV (List PV)
 | [],ys,h=>if it.fH h=true then .ok ys h else .no
 | x::xs,ys,h=>if it.fH h=true/\ys.length < sizeLine then(step x h).bind (λo h1=>match o with
   | some y=>jK it step xs (ys++[y]) h1
   | none=>jK it step xs ys h1) else .no
noncomputable def bU(k:Nat)(g:MG)(t:MT)(a:ME)(c:CF)(e:ax)(x:PV)(h:PH):RV (Option PV):=(g x (e++List.replicate k none) h).bind λe2 h2=>(t c e2 h2).bind λb h3=>if b=true then(a c e2 h3).bind (λy h4=> .ok (some y) h4) else .ok none h3
noncomputable def oZ(k:Nat)(i:MI)(g:MG)(t:MT)(a:ME):ME:=λc e h=>(i c e h).bind λit h1=>(jK it (bU k g t a c e) it.items [] h1).bind λys h2=> .ok (.ref h2.length) (h2++[.lst ys])
section
variable{X:Cx}{pg:Tb}{k:Nat}{a b c d e o i:Expr}{es:List Expr}{ma mb mc md mo mi:ME}{mr:MA}{mt mt':MT}{ms ms' mu:MS}{pos p pos' apos cpos spos:Pos}{x y:Str}{st:Stmt}{body rest:List Stmt}{g:MG}{mI:MI}{tg iter:Expr}{gs:List PV->ax->PH->RV ax}
theorem Nv{c:CF}{K:PySem.W.Frag}:SS c K yT bA:=fun ρ h H e σ D f h' s r q P=>by cases q;exact P σ ρ H (.refl _ _) s r
theorem KG{c:CF}{K:PySem.W.Frag}{t u:TS}(h1:SS c K t ms)(h2:SS c K u mu):SS c K (JB t u) (ai ms mu):=fun ρ h H e σ D f h' s r q P=>by
 obtain⟨f1,h1',e1,q⟩:=bind_eq.mp q;refine h1 ρ h H e σ _ f1 h1' s r e1 ?_;cases f1 with
 | nx e'=>exact fun σ1 ρ1 H1 g1 s1 r1=>h2 ρ1 h1' H1 e' σ1 D f h' s1 r1 q (P.gr g1)
 | rt v=>cases q;exact P
 | bk e'=>cases q;exact P
 | ct e'=>cases q;exact P
theorem Ew:wZ X pg k [] bA:=⟨λA=>⟨_,DY,Nv⟩⟩
theorem E2(h:JS X pg k st ms):wZ X pg k [st] ms:=⟨λA=>let ⟨_,q,s⟩:=h.h A;⟨_,DE q,s⟩⟩
theorem AV(h1:JS X pg k st ms)(h2:wZ X pg k rest mu):wZ X pg k (st::rest) (ai ms mu):=⟨λA=>let ⟨_,q1,s1⟩:=h1.h A;let ⟨_,q2,s2⟩:=h2.h A;⟨_,zL q1 q2,KG s1 s2⟩⟩
theorem Dg(ha:JE X pg k e ma)(hs:swapsWith e none pos.line X.env=pure false:=by rfl):JS X pg k (.Expr e pos) (fT ma):=⟨λA=>let ⟨_,q1,s1⟩:=ha.h A;⟨_,C0 q1 hs,fun ρ h H e σ D f h' s r q P=>by
 obtain⟨x,h1,e1,q⟩:=bind_eq.mp q;cases q;exact s1 ρ h H e σ _ x _ s r e1 λx' ρ1 H1 g1 z1 r1=>P σ ρ1 H1 g1 z1 (r.gr g1)⟩⟩
theorem Jl(ha:JE X pg k e ma):JS X pg k (.Return (some e) pos) (az ma):=⟨λA=>let ⟨_,q1,s1⟩:=ha.h A;⟨_,KL q1,fun ρ h H e σ D f h' s r q P=>by
 obtain⟨x,h1,e1,q⟩:=bind_eq.mp q;cases q;exact s1 ρ h H e σ _ x _ s r e1 P⟩⟩
theorem L3{A B:List Stmt}(hc:JT X pg k c mt)(ha:wZ X pg k A ms)(hb:wZ X pg k B mu):JS X pg k (.If c A B pos) (bt mt ms mu):=⟨λZ =>
 let ⟨_,q0,s0⟩:=hc.h Z;let ⟨_,q1,s1⟩:=ha.h Z;let ⟨_,q2,s2⟩:=hb.h Z;⟨_,MZ q0 q1 q2,fun ρ h H e σ D f h' s r q P=>by
  obtain⟨x,h1,e1,q⟩:=bind_eq.mp q;refine s0 ρ h H e σ _ _ _ s r e1 fun ρ1 H1 g1 z1=>?_;cases x with
  | true=>exact s1 ρ1 _ H1 e σ _ _ _ z1 (r.gr g1) q (P.gr g1)
  | false=>exact s2 ρ1 _ H1 e σ _ _ _ z1 (r.gr g1) q (P.gr g1)⟩⟩
theorem vD{K:PySem.W.Frag}{i:Nat}:SG K (fj i) (gN i):=fun ρ h H e σ Q v v' e' h' s r rv q P=>by cases q;exact P _ ρ H (.refl _ _) s (r.set i rv)
theorem CL{i:Nat}(hN:X.N.Nodup)(hi:X.N[i]?=some x)(hx:Loc X.env.scope x)(hf:X.fn x=true\/X.env.scope.names.lookup x=some .local:=by first | exact .inl rfl | exact .inr rfl | assumption):JG X pg k (.Name x pos) (gN i):=⟨λA=>⟨_,vL hN hi hx hf,vD⟩⟩
structure KR(X:Cx)(pg:Tb)(k:Nat)(e:List Expr)(m:List PV->ax->PH->RV ax):Prop where
 h:dh X pg k-> ∃ t,K0 X e t/\ ∀ ρ h H e σ Q vs us e' h',dc X.K ρ h H->dS X.K ρ H e σ ->aw X.K ρ H vs us->m vs e h= .ok e' h'->fE X.K ρ H e' h' Q->t us σ H Q
theorem DA:KR X pg k [] dA:=⟨λA=>⟨_,EY,fun ρ h H e σ Q vs us e' h' s r rv q P=>by
 cases vs with
 | nil=>cases q;rw[aN] at rv;exact⟨rv,P σ ρ H (.refl _ _) s r⟩
 | cons=>exact nomatch q⟩⟩
theorem Aq(h1:JG X pg k e g)(h2:KR X pg k es gs)(hs:(assignEach (e::es) X.env).map (·.2)=assign e X.env::(assignEach es X.env).map (·.2):=by rfl):KR X pg k (e::es) (aG g gs):=⟨λA =>
 let ⟨_,q1,s1⟩:=h1.h A;let ⟨_,q2,s2⟩:=h2.h A;⟨_,y8 q1 q2 hs,fun ρ h H e σ Q vs us e' h' s r rv q P=>by
 cases vs with
 | nil=>exact nomatch q
 | cons v t =>
  obtain⟨w,u,rfl,r1,r2⟩:=aC.mp rv
  obtain⟨e1,h1,e2,q⟩:=bind_eq.mp q
  refine⟨w,u,rfl,?_⟩
  exact s1 ρ h H e σ _ v w e1 h1 s r r1 e2 fun σ1 ρ1 H1 g1 z1 y1=>s2 ρ1 h1 H1 e1 σ1 Q t u e' h' z1 y1 (aw.gr g1 _ _ r2) q (P.gr g1)⟩⟩
theorem IE{j:Nat}{n:Nat}(h:KR X pg k es gs)(hn:(assignEach es X.env).length=n:=by rfl)(hst:(assignEach es X.env).findIdx? (·.1)=none:=by rfl):JG X pg k (.Tuple es j pos) (gT n gs):=⟨λA =>
 let ⟨_,q1,s1⟩:=h.h A;⟨_,zT A.calm q1 hn hst,fun ρ h H e σ Q v v' e' h' s r rv q P=>by
 unfold gT at q
 split at q
 . rename_i xs ex;obtain⟨a,vs,rfl,z,rr⟩:=rel.seq ex rv;split at q
   . rename_i hl;exact⟨a,vs,rfl,z,by rw[<- rr.len];exact hl,s1 ρ h H e σ Q xs vs e' h' s r rr q P⟩
   . exact nomatch q
 . exact nomatch q⟩⟩
theorem Iq{j:Nat}(hN:X.N.Nodup)(hi:X.N[j]?=some x)(hx:Loc X.env.scope x)(he:JE X pg k e ma)(hs:swapsWith e (some (.Name x pos')) pos.line X.env=pure false:=by rfl)(hf:X.fn x=true\/X.env.scope.names.lookup x=some .local:=by first | exact .inl rfl | exact .inr rfl | assumption) :
  JS X pg k (.Assign [.Name x pos'] e pos) (ak ma (gN j)):=⟨λA=>let ⟨_,q1,s1⟩:=he.h A;⟨_,Ko hN hi hx q1 hs hf,fun ρ h H e σ D f h' s r q P=>by
 obtain⟨v,h1,e1,q⟩:=bind_eq.mp q;obtain⟨e2,h2,e3,q⟩:=bind_eq.mp q;cases q;cases e3;exact s1 ρ h H e σ _ v _ s r e1 λv' ρ1 H1 g1 z1 r1=>P _ ρ1 H1 g1 z1 ((r.gr g1).set j r1)⟩⟩
theorem GV(he:JE X pg k e ma)(hg:JG X pg k tg g)(hs:swapsWithSole [tg] e pos.line X.env=pure false:=by rfl)(hw:swappedStores [tg] e X.env=pure none:=by rfl)(h1:(assignEach [tg] X.env).map (·.2)=[assign tg X.env]:=by rfl) :
  JS X pg k (.Assign [tg] e pos) (ak ma g):=⟨λA=>let ⟨_,q1,s1⟩:=he.h A;let ⟨_,q2,s2⟩:=hg.h A;⟨_,zr q1 q2 hs hw h1,fun ρ h H e σ D f h' s r q P=>by
 obtain⟨v,h1,e1,q⟩:=bind_eq.mp q;obtain⟨e2,h2,e3,q⟩:=bind_eq.mp q;cases q;exact s1 ρ h H e σ _ v h1 s r e1 λv' ρ1 H1 g1 z1 r1=>s2 ρ1 h1 H1 e σ _ v v' e2 _ z1 (r.gr g1) r1 e3 (fE.gr P g1)⟩⟩
theorem HX{f:PV->PV->PV->PH->RV Unit}(hp:dh X pg k-> ∃ t,oI X t/\ ∀ ρ h H x y v x' y' v' u h' Q,dc X.K ρ h H->rel X.K ρ H x x'->rel X.K ρ H y y'->rel X.K ρ H v v'->f x y v h= .ok u h'->lH X.K ρ H h' Q->t x' y' v' H Q)
  (ho:JE X pg k o mo) (hi:JE X pg k i mi) (hv:JE X pg k e ma) (hs:swapsWithSole [.Subscript o i pos'] e pos.line X.env=pure false:=by rfl) (hw:swappedStores [.Subscript o i pos'] e X.env=pure none:=by rfl) (h1:(assignEach [.Subscript o i pos'] X.env).map (·.2)=[assign (.Subscript o i pos') X.env]:=by rfl)
  (ha: ∀ v,assign (.Subscript o i pos') X.env v=(do
   let ov <- holding [v] (eval o X.env)
   let iv <- holding [v,ov] (eval i X.env)
   standAt pos'
   holding [v,ov,iv] (setItem ov iv v)
   release [v,ov,iv] []):=by intro _;rfl):JS X pg k (.Assign [.Subscript o i pos'] e pos) (jR f mo mi ma):=⟨λA =>
 let ⟨_,q0,s0⟩:=hv.h A;let ⟨_,q1,s1⟩:=ho.h A;let ⟨_,q2,s2⟩:=hi.h A;let ⟨_,q3,s3⟩:=hp A;⟨_,zr q0 ⟨Je q1.h q2.h q3 ha⟩ hs hw h1,fun ρ h H e σ D f' h' s r q P=>by
 obtain⟨v,h1,e1,q⟩:=bind_eq.mp q
 obtain⟨x,h2,e2,q⟩:=bind_eq.mp q
 obtain⟨y,h3,e3,q⟩:=bind_eq.mp q
 obtain⟨u,h4,e4,q⟩:=bind_eq.mp q
 cases q
 refine s0 ρ h H e σ _ v h1 s r e1 λv' ρ1 H1 g1 z1 r1=>?_
 refine s1 ρ1 h1 H1 e σ _ x h2 z1 (r.gr g1) e2 λx' ρ2 H2 g2 z2 r2=>?_
 refine s2 ρ2 h2 H2 e σ _ y h3 z2 (r.gr (g1.trans g2)) e3 λy' ρ3 H3 g3 z3 r3=>?_
 have g:=(g1.trans g2).trans g3
 exact s3 ρ3 h3 H3 x y v x' y' v' u _ _ z3 (rel.gr g3 _ _ r2) r3 (rel.gr (g2.trans g3) _ _ r1) e4 fun ρ4 H4 g4 z4=>P σ ρ4 H4 (g.trans g4) z4 (r.gr (g.trans g4))⟩⟩
theorem HW(hi:JI X pg k tg iter mI)(hg:JG X pg k tg g)(hb:wZ X pg k body ms)(hp:PassesOwn (model X.prog X.w) X.A X.env X.xe)(hs: ∀ x,foldedSetIterable iter X.env x=pure x:=by intro _;rfl):JS X pg k (.For tg iter body [] pos) (gp mI g ms):=⟨λA =>
 let ⟨_,q1,s1⟩:=hi.h A;let ⟨_,q2,s2⟩:=hg.h A;let ⟨_,q3,s3⟩:=hb.h A;⟨_,HY hp A.calm q1 q2 q3 hs,fun ρ h H e σ D f h' s r q P=>by
 obtain ⟨it,h1,e1,q⟩:=bind_eq.mp q
 refine s1 ρ h H e σ _ it h1 s r e1 fun ρ1 H1 J g1 z1 w1=>?_
 let step:PV->ax->PH->RV Fl:=λx e h=>(g x e h).bind λe1 h1=>ms (run pg k) e1 h1
 refine ⟨λi m σ' H'=> ∃ ρ' h2 e',Gr ρ1 H1 ρ' H'∧dc X.K ρ' h2 H'∧dS X.K ρ' H' e' σ'∧i<=it.items.length∧m=it.items.length - i∧bF it step (it.items.drop i) e' h2= .ok f h',⟨_, ρ1,h1,e,.refl _ _,z1,r.gr g1,Nat.zero_le _,rfl,q⟩,?_⟩
 rintro i m σ2 H2 ⟨ρ2,h2,e2,g2,z2,r2,hi,rfl,q2⟩
 cases hx:it.items[i]? with
 | none =>
  have hl:it.items.length<=i:=List.getElem?_eq_none_iff.mp hx
  rw[List.drop_eq_nil_of_le hl,bF] at q2
  split at q2
  . rename_i hf;cases q2;exact .inl ⟨(w1 i ρ2 _ H2 g2 z2 hf).2 (by omega),P σ2 ρ2 H2 (g1.trans g2) z2 r2⟩
  . exact nomatch q2
 | some x =>
  have hlt:i < it.items.length:=(List.getElem?_eq_some_iff.mp hx).1
  have hd:it.items.drop i=x::it.items.drop (i+1):=by
   rw[List.drop_eq_getElem_cons hlt,(List.getElem?_eq_some_iff.mp hx).2]
  rw[hd,bF] at q2
  split at q2
  . rename_i hf;obtain⟨go,yl⟩:=(w1 i ρ2 _ H2 g2 z2 hf).1 x hx;obtain⟨f3,h3,e3,q3⟩:=bind_eq.mp q2;obtain ⟨e4,h4,e5,q4⟩:=bind_eq.mp e3;refine .inr ⟨go,fun σ' H'=> ∃ ρ' h2 e',Gr ρ1 H1 ρ' H'∧dc X.K ρ' h2 H'∧dS X.K ρ' H' e' σ'∧bF it step (it.items.drop (i+1)) e' h2= .ok f h',?_,?_⟩
    . rintro σ' H' ⟨ρ',h2,e',a1,a2,a3,a4⟩;exact ⟨it.items.length - (i+1),by omega, ρ',h2,e',a1,a2,a3,hlt,rfl,a4⟩
    . intro v H3 hy;obtain ⟨ρ3,g3,z3,r3⟩:=yl v H3 hy;refine s2 ρ3 h2 H3 e2 σ2 _ x v e4 h4 z3 (r2.gr g3) r3 e5 fun σ4 ρ4 H4 g4 z4 r4=>?_;have gg:=(g2.trans g3).trans g4;refine s3 ρ4 h4 H4 e4 σ4 _ f3 h3 z4 r4 q4 ?_;cases f3 with
      | nx e6=>exact fun σ5 ρ5 H5 g5 z5 r5=>⟨ρ5,h3,e6,gg.trans g5,z5,r5,q3⟩
      | ct e6=>exact fun σ5 ρ5 H5 g5 z5 r5=>⟨ρ5,h3,e6,gg.trans g5,z5,r5,q3⟩
      | bk e6=>cases q3;exact fE.gr P (g1.trans gg)
      | rt v=>cases q3;exact dF.gr P (g1.trans gg)
  . exact nomatch q2⟩⟩
theorem zU (hc:JT X pg k c mt) (hb:wZ X pg k body ms) (hp:PassesOwn (model X.prog X.w) X.A X.env X.xe):JS X pg k (.While c body [] pos) (qy mt ms):=⟨λA =>
 let ⟨_,q1,s1⟩:=hc.h A;let ⟨_,q2,s2⟩:=hb.h A;⟨_,AG hp q1 q2,fun ρ h H e σ D f h' s r q P=>by
 refine ⟨λm σ' H'=> ∃ ρ' h2 e',Gr ρ H ρ' H'∧dc X.K ρ' h2 H'∧dS X.K ρ' H' e' σ'∧dH (mt (run pg k)) (ms (run pg k)) m e' h2= .ok f h',⟨100000, ρ,h,e,.refl _ _,s,r,q⟩,?_⟩
 rintro m σ1 H1 ⟨ρ1,h1,e1,g1,z1,r1,q1⟩
 cases m with
 | zero=>exact nomatch q1
 | succ m =>
  obtain⟨x,h2,e2,q1⟩:=bind_eq.mp q1
  refine s1 ρ1 h1 H1 e1 σ1 _ x h2 z1 r1 e2 fun ρ2 H2 g2 z2=>?_
  cases x with
  | false=>cases q1;exact P σ1 ρ2 H2 (g1.trans g2) z2 (r1.gr g2)
  | true =>
   obtain⟨f3,h3,e3,q3⟩:=bind_eq.mp q1
   refine⟨fun σ' H'=> ∃ ρ' h2 e',Gr ρ H ρ' H'/\dc X.K ρ' h2 H'/\dS X.K ρ' H' e' σ'/\dH (mt (run pg k)) (ms (run pg k)) m e' h2= .ok f h',fun σ' H' w=>⟨m,Nat.lt_succ_self _,w⟩,?_⟩
   refine s2 ρ2 h2 H2 e1 σ1 _ f3 h3 z2 (r1.gr g2) e3 ?_
   have gg:=g1.trans g2
   cases f3 with
   | nx e6=>exact fun σ5 ρ5 H5 g5 z5 r5=>⟨ρ5,h3,e6,gg.trans g5,z5,r5,q3⟩
   | ct e6=>exact fun σ5 ρ5 H5 g5 z5 r5=>⟨ρ5,h3,e6,gg.trans g5,z5,r5,q3⟩
   | bk e6=>cases q3;exact fE.gr P gg
   | rt v=>cases q3;exact dF.gr P gg⟩⟩
theorem FD{cf:CF}{K:PySem.W.Frag}{wi:TI}{tg:TG}{tt:TT}{te:TE}{n:Nat}(s1:SI cf K wi mI)(s2:SG K tg g)(s3:ST cf K tt mt)(s4:SE cf K te ma):SE cf K (N4 n wi tg tt te) (oZ n mI g mt ma):=fun ρ h H e σ Q v h' s r q P=>by
 obtain⟨it,h1,e1,q⟩:=bind_eq.mp q;obtain ⟨ys,h2,e2,q⟩:=bind_eq.mp q;cases q;refine s1 ρ h H e σ _ it h1 s r e1 fun ρ1 H1 J g1 z1 w1=>?_;refine ⟨λi m us H'=> ∃ ρ' h3 zs,Gr ρ1 H1 ρ' H'∧dc K ρ' h3 H'∧aw K ρ' H' zs us∧i<=it.items.length∧m=it.items.length - i∧jK it (bU n g mt ma cf e) (it.items.drop i) zs h3= .ok ys h2,⟨_, ρ1,h1,[],.refl _ _,z1,aN.mpr rfl,Nat.zero_le _,rfl,e2⟩,?_⟩;rintro i m us H2 ⟨ρ2,h3,zs,g2,z2,r2,hi,rfl,q2⟩;cases hx:it.items[i]? with
 | none =>
  have hl:it.items.length<=i:=List.getElem?_eq_none_iff.mp hx
  rw[List.drop_eq_nil_of_le hl,jK] at q2
  split at q2
  . rename_i hf;cases q2;exact .inl ⟨(w1 i ρ2 _ H2 g2 z2 hf).2 (by omega),λp hp=>d8 z2 r2 (P.gr (g1.trans g2)) p hp⟩
  . exact nomatch q2
 | some x =>
  have hlt:i < it.items.length:=(List.getElem?_eq_some_iff.mp hx).1
  have hd:it.items.drop i=x::it.items.drop (i+1):=by
   rw[List.drop_eq_getElem_cons hlt,(List.getElem?_eq_some_iff.mp hx).2]
  rw[hd,jK] at q2
  split at q2
  . rename_i hf;obtain⟨go,yl⟩:=(w1 i ρ2 _ H2 g2 z2 hf.1).1 x hx;obtain⟨o,h4,e3,q3⟩:=bind_eq.mp q2;obtain⟨e4,h5,e5,q4⟩:=bind_eq.mp e3;obtain⟨b,h6,e6,q5⟩:=bind_eq.mp q4;refine .inr ⟨go,by rw[<- r2.len];exact hf.2,λv H3 hy=>?_⟩;obtain⟨ρ3,g3,z3,r3⟩:=yl v H3 hy;refine s2 ρ3 h3 H3 _ _ _ x v e4 h5 z3 (((r.gr (g1.trans (g2.trans g3)))).more n) r3 e5 fun σ4 ρ4 H4 g4 z4 r4=>?_;refine s3 ρ4 h5 H4 e4 σ4 _ b h6 z4 r4 e6 fun ρ5 H5 g5 z5=>?_;have gg:=((g2.trans g3).trans g4).trans g5;cases b with
    | false=>cases q5;exact ⟨it.items.length - (i+1),by omega, ρ5,_,zs,gg,z5,aw.gr ((g3.trans g4).trans g5) _ _ r2,hlt,rfl,q3⟩
    | true =>
     obtain ⟨y,h7,e7,q6⟩:=bind_eq.mp q5
     cases q6
     refine s4 ρ5 h6 H5 e4 σ4 _ y _ z5 (r4.gr g5) e7 λy' ρ6 H6 g6 z6 r6=>?_
     exact ⟨it.items.length - (i+1),by omega, ρ6,_,zs++[y],gg.trans g6,z6,(aw.gr (((g3.trans g4).trans g5).trans g6) _ _ r2).app (aw.one r6),hlt,rfl,q3⟩
  . exact nomatch q2
end
noncomputable def Qe (c:CF) (K:PySem.W.Frag) (m:ME):TE:=fun σ H Q=> ∃ ρ h e v h',dc K ρ h H∧dS K ρ H e σ ∧m c e h= .ok v h'∧dF K ρ H v h' Q
noncomputable def PY(c:CF)(K:PySem.W.Frag)(m:MT):TT:=fun σ H Q=> ∃ ρ h e b h',dc K ρ h H/\dS K ρ H e σ /\m c e h= .ok b h'/\lH K ρ H h' (Q b)
theorem FU{c:CF}{K:PySem.W.Frag}{m:ME}:SE c K (Qe c K m) m:=fun ρ h H e σ Q v h' s r q P=>⟨ρ,h,e,v,h',s,r,q,P⟩
theorem Fn{c:CF}{K:PySem.W.Frag}{m:MT}:ST c K (PY c K m) m:=fun ρ h H e σ Q v h' s r q P=>⟨ρ,h,e,v,h',s,r,q,P⟩
theorem JE.MM{X:Cx}{pg:Tb}{k:Nat}{e:Expr}{m:ME}(j:JE X pg k e m)(A:dh X pg k):QE X e (Qe (run pg k) X.K m) :=
 let ⟨_,q,s⟩:=j.h A;⟨λpins st σ H Q I ⟨ρ,h,e,v,h',a,b,c,d⟩=>q.h pins st σ H Q I (s ρ h H e σ Q v h' a b c d)⟩
theorem JF.MM{X:Cx}{pg:Tb}{k:Nat}{e:List Expr}{m:MT}(j:JF X pg k e m)(A:dh X pg k):QF X e (PY (run pg k) X.K m) :=
 let ⟨_,q,s⟩:=j.h A;⟨λpins st σ H Q I ⟨ρ,h,e,v,h',a,b,c,d⟩=>q.h pins st σ H Q I (s ρ h H e σ Q v h' a b c d)⟩
structure GC(K:PySem.W.Frag)(n:Nat)(t:TG)(m:MG):Prop where
 sg:SG K t m
 gk:GK n t
 mono:uM t
structure Oh(K:PySem.W.Frag)(n:Nat)(t:p6)(m:List PV->ax->PH->RV ax):Prop where
 sg: ∀ ρ h H e σ Q vs us e' h',dc K ρ h H->dS K ρ H e σ ->aw K ρ H vs us->m vs e h= .ok e' h'->fE K ρ H e' h' Q->t us σ H Q
 gk:MH n t
 mono: ∀ xs σ H Q Q',(∀ σ2 H2,Q σ2 H2->Q' σ2 H2)->t xs σ H Q->t xs σ H Q'
theorem EJ{K:PySem.W.Frag}{n i:Nat}(h:n<=i):GC K n (fj i) (gN i):=⟨vD,EO h,vc⟩
theorem vR{K:PySem.W.Frag}{n:Nat}:Oh K n yg dA:=⟨fun ρ h H e σ Q vs us e' h' s r rv q P=>by
 cases vs with
 | nil=>cases q;rw[aN] at rv;exact⟨rv,P σ ρ H (.refl _ _) s r⟩
 | cons=>exact(nomatch q),J7,λxs σ H Q Q' f q=>⟨q.1,f _ _ q.2⟩⟩
theorem ko{K:PySem.W.Frag}{n:Nat}{t:TG}{m:MG}{ts:p6}{ms:List PV->ax->PH->RV ax}(a:GC K n t m)(b:Oh K n ts ms):Oh K n (lF t ts) (aG m ms):=⟨fun ρ h H e σ Q vs us e' h' s r rv q P=>by
 cases vs with
 | nil=>exact nomatch q
 | cons v t =>
  obtain⟨w,u,rfl,r1,r2⟩:=aC.mp rv
  obtain⟨e1,h1,e2,q⟩:=bind_eq.mp q
  refine⟨w,u,rfl,?_⟩
  exact a.sg ρ h H e σ _ v w e1 h1 s r r1 e2 fun σ1 ρ1 H1 g1 z1 y1=>b.sg ρ1 h1 H1 e1 σ1 Q t u e' h' z1 y1 (aw.gr g1 _ _ r2) q (P.gr g1),D8 a.gk a.mono b.gk,
 λxs σ H Q Q' f ⟨v,r,e,q⟩=>⟨v,r,e,a.mono _ _ _ _ _ (fun σ2 H2 z=>b.mono _ _ _ _ _ f z) q⟩⟩
theorem zQ{K:PySem.W.Frag}{n j:Nat}{ts:p6}{ms:List PV->ax->PH->RV ax}(b:Oh K n ts ms):GC K n (uO K j ts) (gT j ms):=⟨fun ρ h H e σ Q v v' e' h' s r rv q P=>by
 unfold gT at q;split at q
 . rename_i xs ex;obtain⟨a,vs,rfl,z,rr⟩:=rel.seq ex rv;split at q
   . rename_i hl;exact⟨a,vs,rfl,z,by rw[<- rr.len];exact hl,b.sg ρ h H e σ Q xs vs e' h' s r rr q P⟩
   . exact nomatch q
 . exact(nomatch q),IH b.gk,λx σ H Q Q' f ⟨a,xs,e1,e2,e3,q⟩=>⟨a,xs,e1,e2,e3,b.mono _ _ _ _ _ f q⟩⟩
section
variable{X:Cx}{pg:Tb}{k:Nat}{e tg iter:Expr}{ma:ME}{mt:MT}{g:MG}{tG:TG}{mI:MI}{scope:Scope}{ifs:List Expr}{pos spos py:Pos}{y:Str}
theorem t7(vars:List Str)(hkind:scope.kind= .function)(hlc:hV scope.names X.env.scope.names X.N vars=true)(hi:JI X pg k tg iter mI)
  (hb: ∀ cl C s₀ H₀ ex pn,(dh X pg k->QG (fI X vars scope cl C s₀ H₀ ex pn) tg tG)/\JF (fI X vars scope cl C s₀ H₀ ex pn) pg k ifs mt/\JE (fI X vars scope cl C s₀ H₀ ex pn) pg k e ma) (hG:GC X.K X.N.length tG g)
  (hs: ∀ x,foldedSetIterable iter X.env x=pure x:=by intro _;rfl):JE X pg k (.ListComp e [⟨tg,iter,ifs,0⟩] scope pos) (oZ vars.length mI g mt ma):=⟨λA =>
 let ⟨_,q1,s1⟩:=hi.h A
 ⟨_,BL vars A.calm A.oR hkind hlc q1 (λcl C s₀ H₀ ex pn=>let ⟨h1,h2,h3⟩:=hb cl C s₀ H₀ ex pn;⟨h1 A,h2.MM (A.fI ..),h3.MM (A.fI ..)⟩) hG.gk hs,FD s1 hG.sg Fn FU⟩⟩
theorem sQ(vars:List Str)(i:Nat)(hkind:scope.kind= .function)(hlc:hV scope.names X.env.scope.names X.N vars=true)(hN:X.N.Nodup)(hiy:X.N[i]?=some y)(hy:Loc X.env.scope y)(hi:JI X pg k tg iter mI)
  (hb: ∀ cl C s₀ H₀ ex pn,(dh X pg k->QG (fI X vars scope cl C s₀ H₀ ex pn) tg tG)/\JF (fI X vars scope cl C s₀ H₀ ex pn) pg k ifs mt/\JE (fI X vars scope cl C s₀ H₀ ex pn) pg k e ma) (hG:GC X.K X.N.length tG g)
  (hsw:swapsWith (.ListComp e [⟨tg,iter,ifs,0⟩] scope pos) (some (.Name y py)) spos.line X.env=pure true:=by rfl) (hs: ∀ x,foldedSetIterable iter X.env x=pure x:=by intro _;rfl)
  (hf:X.fn y=true\/X.env.scope.names.lookup y=some .local:=by first | exact .inl rfl | exact .inr rfl | assumption) :
  JS X pg k (.Assign [.Name y py] (.ListComp e [⟨tg,iter,ifs,0⟩] scope pos) spos) (ak (oZ vars.length mI g mt ma) (gN i)):=⟨λA =>
 let ⟨_,q1,s1⟩:=hi.h A
 ⟨_,AM vars i A.calm A.oR hkind hlc hN hiy hy q1 (λcl C s₀ H₀ ex pn=>let ⟨h1,h2,h3⟩:=hb cl C s₀ H₀ ex pn;⟨h1 A,h2.MM (A.fI ..),h3.MM (A.fI ..)⟩) hG.gk hsw hs hf,fun ρ h H e σ D f h' s r q P=>by
  obtain⟨v,h1,e1,q⟩:=bind_eq.mp q;obtain⟨e2,h2,e3,q⟩:=bind_eq.mp q;cases q;cases e3;exact FD s1 hG.sg Fn FU ρ h H e σ _ v _ s r e1 λv' ρ1 H1 g1 z1 r1=>P _ ρ1 H1 g1 z1 ((r.gr g1).set i r1)⟩⟩
end
section
variable{K:PySem.W.Frag}{ρ ρ':List Addr}{H H':Hp}{h h':PH}
mutual
theorem rel.flat: ∀(x:PV)(v:V),x.flat=true->rel K ρ' H' x v->rel K ρ H' x v
 | .non,v,_,h=>by simpa only[rel] using h
 | .bl _,v,_,h=>by simpa only[rel] using h
 | .int _,v,_,h=>by simpa only[rel] using h
 | .str _,v,_,h=>by simpa only[rel] using h
 | .ty _,v,_,h=>by simpa only[rel] using h
 | .ref n,v,f,h=>by simp[PV.flat] at f
 | .tup xs,v,f,h=>by
  rw[rel] at h ⊢;rw[PV.flat] at f;obtain⟨a,vs,e,s,r⟩:=h;exact⟨a,vs,e,s,aw.flat xs vs f r⟩
 | .ktup xs,v,f,h=>by
  rw[rel] at h ⊢;rw[PV.flat] at f;obtain⟨a,vs,e,s,r⟩:=h;exact⟨a,vs,e,s,aw.flat xs vs f r⟩
theorem aw.flat: ∀(xs:List PV)(vs:List V),PV.dE xs=true->aw K ρ' H' xs vs->aw K ρ H' xs vs
 | [],vs,_,h=>by simpa only[aw] using h
 | x::r,vs,f,h=>by
  rw[aw] at h ⊢;rw[PV.dE,Bool.and_eq_true] at f;obtain⟨v,t,e,h1,h2⟩:=h;exact ⟨v,t,e,rel.flat x v f.1 h1,aw.flat r t f.2 h2⟩
end
mutual
theorem rel.i3 (g: ∀ (n:Nat) (a:Addr), ρ[n]?=some a-> ρ'[n]?=some a): ∀ (x:PV) (v:V),x.i3 ρ.length=true->rel K ρ' H' x v->rel K ρ H' x v
 | .non,v,_,h=>by simpa only [rel] using h
 | .bl _,v,_,h=>by simpa only [rel] using h
 | .int _,v,_,h=>by simpa only [rel] using h
 | .str _,v,_,h=>by simpa only[rel] using h
 | .ty _,v,_,h=>by simpa only[rel] using h
 | .ref n,v,f,h=>by
  rw[rel] at h ⊢;rw[PV.i3,decide_eq_true_eq] at f;obtain⟨a,e,h⟩:=h;have:=g n _ (List.getElem?_eq_getElem f);rw[e] at this;exact⟨a,by rw[List.getElem?_eq_getElem f,<- Option.some.inj this],h⟩
 | .tup xs,v,f,h=>by
  rw[rel] at h ⊢;rw[PV.i3] at f;obtain⟨a,vs,e,s,r⟩:=h;exact⟨a,vs,e,s,aw.i3 g xs vs f r⟩
 | .ktup xs,v,f,h=>by
  rw[rel] at h ⊢;rw [PV.i3] at f;obtain ⟨a,vs,e,s,r⟩:=h;exact ⟨a,vs,e,s,aw.i3 g xs vs f r⟩
theorem aw.i3 (g: ∀ (n:Nat) (a:Addr), ρ[n]?=some a-> ρ'[n]?=some a): ∀ (xs:List PV) (vs:List V),PV.jE ρ.length xs=true->aw K ρ' H' xs vs->aw K ρ H' xs vs
 | [],vs,_,h=>by simpa only [aw] using h
 | x::r,vs,f,h=>by
  rw [aw] at h ⊢;rw[PV.jE,Bool.and_eq_true] at f;obtain⟨v,t,e,h1,h2⟩:=h;exact⟨v,t,e,rel.i3 g x v f.1 h1,aw.i3 g r t f.2 h2⟩
end
mutual
theorem rel.low: ∀(x:PV)(v:V),rel K ρ H x v->x.i3 ρ.length=true
 | .non,v,_=>rfl
 | .bl _,v,_=>rfl
 | .int _,v,_=>rfl
 | .str _,v,_=>rfl
 | .ty _,v,_=>rfl
 | .ref n,v,h=>by
  rw[rel] at h;obtain⟨a,e,h⟩:=h;rw[PV.i3,decide_eq_true_eq];exact(List.getElem?_eq_some_iff.mp e).1
 | .tup xs,v,h=>by
  rw[rel] at h;obtain⟨a,vs,e,s,r⟩:=h;rw[PV.i3];exact aw.low xs vs r
 | .ktup xs,v,h=>by
  rw[rel] at h;obtain⟨a,vs,e,s,r⟩:=h;rw[PV.i3];exact aw.low xs vs r
theorem aw.low: ∀(xs:List PV)(vs:List V),aw K ρ H xs vs->PV.jE ρ.length xs=true
 | [],vs,_=>rfl
 | x::r,vs,h=>by
  rw[aw] at h;obtain⟨v,t,e,h1,h2⟩:=h;rw[PV.jE,rel.low x v h1,aw.low r t h2];rfl
end
theorem Paired.low: ∀{kvs:List (Key × PV)}{kws:List (Key × V)},Paired (λ(p:Key × PV) (q:Key × V)=>p.1=q.1/\rel K ρ H p.2 q.2) kvs kws->PV.jE ρ.length (kvs.map (·.2))=true
 | _,_,.nil=>rfl
 | _,_,.cons r t=>by rw[List.map_cons,PV.jE,rel.low _ _ r.2,Paired.low t];rfl
theorem kO.low{a:Addr}: ∀{o:PO},kO K ρ H a o->o.i3 ρ.length=true
 | .lst xs,⟨vs,_,r⟩=>aw.low _ _ r
 | .kD xs,⟨vs,_,r⟩=>aw.low _ _ r
 | .dct kvs,⟨kws,_,r⟩=>Paired.low r
theorem Paired.i3 (g: ∀ (n:Nat) (a:Addr), ρ[n]?=some a-> ρ'[n]?=some a): ∀ {kvs:List (Key × PV)} {kws:List (Key × V)},PV.jE ρ.length (kvs.map (·.2))=true ->
  Paired (λ(p:Key × PV) (q:Key × V)=>p.1=q.1∧rel K ρ' H' p.2 q.2) kvs kws->Paired (λ(p:Key × PV) (q:Key × V)=>p.1=q.1∧rel K ρ H' p.2 q.2) kvs kws
 | _,_,_,.nil=> .nil
 | _,_,f,.cons r t=>by
  rw [List.map_cons,PV.jE,Bool.and_eq_true] at f;exact .cons ⟨r.1,rel.i3 g _ _ f.1 r.2⟩ (Paired.i3 g f.2 t)
theorem kO.i3 (g: ∀ (n:Nat) (a:Addr), ρ[n]?=some a-> ρ'[n]?=some a) {a:Addr}: ∀ {o:PO},o.i3 ρ.length=true->kO K ρ' H' a o->kO K ρ H' a o
 | .lst xs,f,⟨vs,e,r⟩=>⟨vs,e,aw.i3 g _ _ f r⟩
 | .kD xs,f,⟨vs,e,r⟩=>⟨vs,e,aw.i3 g _ _ f r⟩
 | .dct kvs,f,⟨kws,e,r⟩=>⟨kws,e,Paired.i3 g f r⟩
theorem dc.drop(s:dc K ρ h H)(g:Gr ρ H ρ' H')(s':dc K ρ' h' H')(ok:cy h.length h h'=true):dc K ρ (h'.take h.length) H':=by
 have old: ∀{i:Nat}{o:PO},(h'.take h.length)[i]?=some o->i < h.length/\h'[i]?=some o:=λ{i o} e=>by
  have hi:i < h.length:=by
   have:=(List.getElem?_eq_some_iff.mp e).1;rw[List.length_take] at this;omega
  rw[List.getElem?_take,if_pos hi] at e;exact⟨hi,e⟩
 refine⟨by rw[List.length_take,s.len,Nat.min_eq_left (oy ok)],λi j a oi oj ei ej mi mj ri rj=>?_,λi o a e ea=>?_⟩
 . exact s'.nd i j a oi oj (old ei).2 (old ej).2 mi mj (g.pre _ _ ri) (g.pre _ _ rj)
 . have r:=s'.ob i o a (old e).2 (g.pre _ _ ea);obtain⟨o0,e0,_,z⟩:=pU ok e;refine kO.i3 g.pre ?_ r;rcases z with z | z
   . subst z;exact(s.ob i o0 a e0 ea).low
   . rw[s.len];exact z
theorem fQ{v w:PV}{h2:PH}{Q:VK}(s:dc K ρ h H)(e:settle h v h'= .ok w h2)(P:dF K ρ H w h2 Q):dF K ρ H v h' Q:=by
 unfold settle at e;split at e
 . rename_i ok;rw[Bool.and_eq_true] at ok;cases e;exact λv' ρ' H' g s' r=>P v' ρ H' ⟨λ_ _ z=>z,g.tup,g.jB⟩ (s.drop g s' ok.2) (rel.flat _ _ ok.1 r)
 . cases e;exact P
end
theorem gP{K:PySem.W.Frag}{ρ :List Addr}{H:Hp}: ∀{args:List PV}{vs:List V},aw K ρ H args vs-> ∀(n:Nat),dS K ρ H (args.map some++List.replicate n none) (vs.map some++List.replicate n none)
 | args,vs,r,n=>by
  have:dS K ρ H (args.map some) (vs.map some):=⟨by simp[r.len],λi v e=>by
   rw[List.getElem?_map] at e;cases q:args[i]? with
   | none=>rw[q] at e;exact nomatch e
   | some w =>
    rw[q] at e
    cases e
    obtain⟨v',e1,e2⟩:=r.get q
    exact⟨v',by rw[List.getElem?_map,e1];rfl,e2⟩⟩
  exact this.more n
structure iV(P:Program)(w:World)(K:PySem.W.Frag)(mg:Str->Option Value)(base:Heap)(pg:Tb)(f:String)(d:Df):Prop where
 ex: ∃(st:Stmt)(N:List Str),At K mg (Str.ofString f) st/\ay N d.ps (aj st)/\N.length=d.ps.length+d.nl /\
  (∀(kV doc pm:Value)(an:Option Addr)(cdv ct:Value)(us:List Value),us.length=d.ps.length->bindArgs (PySem.W.fnOf (Str.ofString f) (Str.ofString f) (c6 st) (bz st) (aj st) .none kV doc pm an cdv ct) ⟨us,[]⟩=pure (d.ps.zip us)) /\
  ∀(fa:Addr)(cdv:Value)(A:Around)(outer:List Env)(s:Shared)(H:Hp)(E:XK)(k:Nat),wZ (jv rM P w K mg base N (Str.ofString f) (aj st) fa cdv A outer s H E).oR pg k (bz st) d.body
structure Top(P:Program)(w:World)(K:PySem.W.Frag)(mg:Str->Option Value)(pg:Tb):Prop where
 blt: ∀ x∈iC,mg x=none
 con: ∀ x v,pg.con x=some v-> ∃ u v',mg x=some u/\RelV v' u/\ ∀ ρ H,rel K ρ H v v'
 yv: ∀ x kvs,pg.yv x=some kvs-> ∃ a kws,mg x=some (.ref a)∧KD P w K a kws∧ ∀ ρ H,Paired (λ(p:Key × PV) (q:Key × V)=>p.1=q.1∧rel K ρ H p.2 q.2) kvs kws
section
variable {P:Program} {w:World} {K:PySem.W.Frag} {mg:Str->Option Value} {base:Heap} {pg:Tb}
theorem yH (T : Top P w K mg pg) (G : ∀ f d, pg.fns f = some d -> iV P w K mg base pg f d) : ∀ k f d, pg.fns f = some d -> iq P w K mg base (Str.ofString f) k d.ps (uG K pg k f) := by
  intro k
  induction k with
  | zero =>
    intro f d hf
    obtain ⟨st, N, a, S, hl, hb, body⟩ := (G f d hf).ex
    exact At.yf a hb λvs H Q E ⟨ρ, h, args, v, h', _, _, q, _⟩ => nomatch q
  | succ k ih =>
    intro f d hf
    obtain ⟨st, N, a, S, hl, hb, body⟩ := (G f d hf).ex
    have run_eq : ∀ {args : List PV} {h h' : PH} {v : PV}, run pg (k + 1) f args h = .ok v h' -> args.length = d.ps.length ∧
        ((∃ w h2, d.body (run pg k) (args.map some ++ List.replicate d.nl none) h = .ok (.rt w) h2 /\ settle h w h2 = .ok v h') ∨
         (∃ e h2, d.body (run pg k) (args.map some ++ List.replicate d.nl none) h = .ok (.nx e) h2 /\ settle h .non h2 = .ok v h')) := λ{args h h' v} q => by
      rw [run, hf] at q;simp only at q;split at q
      . rename_i hn;refine ⟨hn, ?_⟩;split at q
        . rename_i w h2 e; exact .inl ⟨w, h2, e, q⟩
        . rename_i e' h2 e; exact .inr ⟨e', h2, e, q⟩
        . exact nomatch q
        . exact nomatch q
        . exact nomatch q
      . exact nomatch q
    refine At.Ou a S hb (λvs H Q E ⟨ρ, h, args, v, h', _, r, q, _⟩ => by rw [<- r.len]; exact (run_eq q).1) ?_
    rintro fa cdv A outer s H vs Q E hr ⟨ρ, h, args, v, h', sm, r, q, post⟩
    have amb : dh (jv rM P w K mg base N (Str.ofString f) (aj st) fa cdv A outer s H E).oR pg k := ⟨hr, rfl, λ_ _ z => z, ih, T.blt, T.con, T.yv⟩
    obtain ⟨t, qt, st'⟩ := (body fa cdv A outer s H E k).h amb
    refine ⟨t, qt, ?_⟩
    obtain ⟨hn, q⟩ := run_eq q
    have he : L2.start N vs = vs.map some ++ List.replicate d.nl none := by
      unfold L2.start;rw [hl, <- r.len, hn, Nat.add_sub_cancel_left]
    rw [he]
    rcases q with ⟨w, h2, e, q⟩ | ⟨e', h2, e, q⟩
    . exact st' ρ h H _ _ _ _ h2 sm (gP r _) e (fQ sm q post)
    . exact st' ρ h H _ _ _ _ h2 sm (gP r _) e fun σ' ρ' H' g s' _ => fQ sm q post .non ρ' H' g s' (by rw [rel])
end
noncomputable def p2(f:Int->Int->RV PV):PV->PV->PH->RV PV:=λx y h=>match x,y with
 | .int i,.int j=>(f i j).bind λv _=> .ok v h
 | _,_=> .no
noncomputable def BS(v:PV):RV PV:= .ok v []
section
variable{K:PySem.W.Frag}{X:Cx}{pg:Tb}{k:Nat}
theorem Gi{C:Int->Int->Prop}{g:Int->Int->V}{f:Int->Int->RV PV}(hf: ∀ i j v h,f i j= .ok v h->C i j/\ ∀ ρ H,rel K ρ H v (g i j)):lQ K (rI C g) (p2 f):=fun ρ h H x y x' y' Q v h' s rx ry q P=>by
 unfold p2 at q;split at q
 . rename_i i j;rw[rel] at rx ry;obtain⟨w,h0,e,q⟩:=bind_eq.mp q;cases q;obtain⟨hc,hr⟩:=hf i j v h0 e;exact⟨i,j,rx,ry,hc,P _ ρ H (.refl _ _) s (hr ρ H)⟩
 . exact nomatch q
theorem s9{g:Int->Int->V}{f:Int->Int->RV PV}(hf: ∀ i j v h,f i j= .ok v h-> ∀ ρ H,rel K ρ H v (g i j)):lQ K (BX g) (p2 f):=fun ρ h H x y x' y' Q v h' s rx ry q P=>by
 unfold p2 at q;split at q
 . rename_i i j;rw[rel] at rx ry;obtain⟨w,h0,e,q⟩:=bind_eq.mp q;cases q;exact⟨i,j,rx,ry,P _ ρ H (.refl _ _) s (hf i j v h0 e ρ H)⟩
 . exact nomatch q
noncomputable def nX:PV->PV->PH->RV PV:=p2 λi j=>BS (.int (i - j))
noncomputable def eA:PV->PV->PH->RV PV:=p2 λi j=>if 0 < j then BS (.int (i % j)) else .no
noncomputable def mR:PV->PV->PH->RV PV:=p2 λi j=>if 0 < j/\j < 1073741824 then BS (.int (i / j)) else .no
noncomputable def xU:PV->PV->PH->RV PV:=p2 λi j=>if 0<=j/\j<=1000000/\i.natAbs < 2 ^ 64 then BS (.int (i ^ j.toNat)) else .no
noncomputable def Br:PV->PV->PH->RV PV:=p2 λi j=>BS (.bl (decide (i < j)))
noncomputable def K1:PV->PV->PH->RV PV:=p2 λi j=>BS (.bl (decide (i<=j)))
noncomputable def wk:PV->PV->PH->RV PV:=p2 λi j=>BS (.bl (decide (j < i)))
noncomputable def Oz:PV->PV->PH->RV PV:=p2 λi j=>BS (.bl (decide (j<=i)))
noncomputable def B5:PV->PH->RV PV:=λx h=>match x with
 | .int i=> .ok (.int (-i)) h
 | _=> .no
theorem Mc:dh X pg k-> ∃ r,di X (binaryOp .Sub) r/\lQ X.K r nX:=λ_=>⟨_,KQ,s9 λi j v h e ρ H=>by cases e;rw[rel]⟩
theorem LL:dh X pg k-> ∃ r,di X (binaryOp .Mod) r/\lQ X.K r eA:=λ_=>⟨_,Ib,Gi λi j v h e=>by
 split at e
 . cases e;exact⟨by assumption,fun ρ H=>by rw[rel]⟩
 . exact nomatch e⟩
theorem GX:dh X pg k-> ∃ r,di X (binaryOp .FloorDiv) r/\lQ X.K r mR:=λ_=>⟨_,El,Gi λi j v h e=>by
 split at e
 . cases e;exact⟨by assumption,fun ρ H=>by rw[rel]⟩
 . exact nomatch e⟩
theorem LU:dh X pg k-> ∃ r,di X (binaryOp .Pow) r/\lQ X.K r xU:=λ_=>⟨_,GP,Gi λi j v h e=>by
 split at e
 . cases e;exact⟨by assumption,fun ρ H=>by rw[rel]⟩
 . exact nomatch e⟩
theorem OE:dh X pg k-> ∃ r,di X (compareOp .Lt) r/\lQ X.K r Br:=λ_=>⟨_,NJ,s9 λi j v h e ρ H=>by cases e;rw[rel]⟩
theorem Ov:dh X pg k-> ∃ r,di X (compareOp .LtE) r/\lQ X.K r K1:=λ_=>⟨_,Ly,s9 λi j v h e ρ H=>by cases e;rw[rel]⟩
theorem O2:dh X pg k-> ∃ r,di X (compareOp .Gt) r/\lQ X.K r wk:=λ_=>⟨_,M7,s9 λi j v h e ρ H=>by cases e;rw[rel]⟩
theorem Oo:dh X pg k-> ∃ r,di X (compareOp .GtE) r/\lQ X.K r Oz:=λ_=>⟨_,K7,s9 λi j v h e ρ H=>by cases e;rw[rel]⟩
theorem LD:dh X pg k-> ∃ r,KW X (unaryOp .USub) r/\ ∀ ρ h H x x' Q v h',dc X.K ρ h H->rel X.K ρ H x x'->B5 x h= .ok v h'->dF X.K ρ H v h' Q->r x' H Q:=λ_=>⟨_,Kf,fun ρ h H x x' Q v h' s rx q P=>by
 cases x with
 | int i =>
  rw[rel] at rx
  cases q
  exact⟨_,rx,P _ ρ H (.refl _ _) s (by rw[rel])⟩
 | _=>exact nomatch q⟩
noncomputable def EF(xs:List PV)(h:PH):RV PV:=kr xs.length (.ok (.ref h.length) (h++[.lst xs]))
noncomputable def aE:PV->PV->PH->RV PV:=λx y h=>match x,y with
 | .int i,.int j=> .ok (.int (i+j)) h
 | .str a,.str b=>kr (a.length+b.length) (.ok (.str (a++b)) h)
 | .tup xs,.tup ys=>kr (xs.length+ys.length) (.ok (.tup (xs++ys)) h)
 | .ref n,.ref m=>(match h[n]?,h[m]? with
  | some (.lst xs),some (.lst ys)=>EF (xs++ys) h
  | _,_=> .no)
 | _,_=> .no
theorem dc.lst{ρ :List Addr}{h:PH}{H:Hp}(s:dc K ρ h H){n:Nat}{xs:List PV}(e:h[n]?=some (.lst xs)){v:V}(r:rel K ρ H (.ref n) v): ∃ a vs,v= .ref a/\ ρ[n]?=some a/\H a=some (.lst vs)/\aw K ρ H xs vs:=by
 rw[rel] at r;obtain⟨a,ea,rfl⟩:=r;obtain⟨vs,e1,e2⟩:=s.ob n _ a e ea;exact⟨a,vs,rfl,ea,e1,e2⟩
theorem dc.kD{ρ :List Addr}{h:PH}{H:Hp}(s:dc K ρ h H){n:Nat}{xs:List PV}(e:h[n]?=some (.kD xs)){v:V}(r:rel K ρ H (.ref n) v): ∃ a vs,v= .ref a/\ ρ[n]?=some a/\gi K H a vs/\aw K ρ H xs vs:=by
 rw[rel] at r;obtain⟨a,ea,rfl⟩:=r;obtain⟨vs,e1,e2⟩:=s.ob n _ a e ea;exact⟨a,vs,rfl,ea,e1.sq,e2⟩
noncomputable def de(h:PH)(n:Nat):Option (List PV):=match h[n]? with
 | some (.lst xs)=>some xs
 | some (.kD xs)=>some xs
 | _=>none
theorem dc.sq{ρ :List Addr}{h:PH}{H:Hp}(s:dc K ρ h H){n:Nat}{xs:List PV}(e:de h n=some xs){v:V}(r:rel K ρ H (.ref n) v): ∃ a vs,v= .ref a/\ ρ[n]?=some a/\gi K H a vs/\aw K ρ H xs vs:=by
 unfold de at e;split at e
 . cases e;obtain⟨a,vs,e1,e2,e3,e4⟩:=s.lst (by assumption) r;exact⟨a,vs,e1,e2,.of e3,e4⟩
 . cases e;exact s.kD (by assumption) r
 . exact nomatch e
theorem lZ{ρ :List Addr}{h:PH}{H:Hp}{xs:List PV}{us:List V}{Q:VK}(s:dc K ρ h H)(r:aw K ρ H xs us)(P:dF K ρ H (.tup xs) h Q)(p:Addr)(hp:H p=none):Q (.ref p) (upd H p (.tup us)):=by
 refine P _ ρ _ (Gr.uS hp) (s.tup hp) ?_;rw[rel];exact⟨p,us,rfl,bc,aw.gr (Gr.uS hp) _ _ r⟩
theorem Lo:dh X pg k-> ∃ r,di X (binaryOp .Add) r/\lQ X.K r aE:=λ_=>⟨_,GS,fun ρ h H x y x' y' Q v h' s rx ry q P=>by
 unfold aE at q;split at q
 . cases q;rw[rel] at rx ry;exact .inl ⟨_,_,rx,ry,P _ ρ H (.refl _ _) s (by rw[rel])⟩
 . obtain⟨hl,q⟩:=jo.mp q;cases q;rw[rel] at rx ry;exact .inr (.inr (.inr (.inr ⟨_,_,rx,ry,hl,P _ ρ H (.refl _ _) s (by rw[rel])⟩)))
 . rename_i xs ys;obtain⟨hl,q⟩:=jo.mp q;cases q;have ry':=ry;rw[rel] at rx ry;obtain⟨a,us,e1,e2,e3⟩:=rx;obtain⟨b,ws,d1,d2,d3⟩:=ry;cases xs with
   | nil =>
    rw[aN] at e3;subst e3
    exact .inr (.inr (.inr (.inl ⟨a,b,ws,e1,d1,.of e2,.of d2,d1 ▸ P y' ρ H (.refl _ _) s ry'⟩)))
   | cons x r =>
    refine .inr (.inr (.inl ⟨a,b,us,ws,e1,d1,.of e2,.of d2,?_,by rw[<- e3.len,<- d3.len];exact hl,?_⟩))
    . rintro rfl;have:=e3.len;simp at this
    . refine⟨λz=>?_,λ_ p hp=>lZ s (e3.app d3) P p hp⟩;subst z;have:ys=[]:=List.eq_nil_of_length_eq_zero d3.len;subst this;rw[List.append_nil] at P;exact P _ ρ H (.refl _ _) s (by rw[rel];exact⟨a,us,rfl,e2,e3⟩)
 . split at q
   . rename_i h1 h2;unfold EF at q;obtain⟨hl,q⟩:=jo.mp q;cases q;obtain⟨a,us,rfl,_,e1,e2⟩:=s.lst h1 rx;obtain⟨b,ws,rfl,_,d1,d2⟩:=s.lst h2 ry;refine .inr (.inl ⟨a,b,us,ws,rfl,rfl,e1,d1,?_,λp hp=>d8 s (e2.app d2) P p hp⟩);rw[<- e2.len,<- d2.len];simpa using hl
   . exact nomatch q
 . exact nomatch q⟩
noncomputable def bV(kvs:List (Key × PV))(k:Key):Option PV:=(kvs.find? λkv=>decide (kv.1=k)).map (·.2)
noncomputable def eQ(kvs:List (Key × PV))(k:Key)(v:PV):List (Key × PV) :=
 if (kvs.any λkv=>decide (kv.1=k))=true then kvs.map (λkv=>if kv.1=k then(kv.1,v) else kv) else kvs++[(k,v)]
noncomputable def gJ:PV->Option Key
 | .int i=>some (.inl i)
 | .str x=>some (.inr x)
 | _=>none
theorem fG{ρ :List Addr}{H:Hp}{x:PV}{k:Key}{v:V}(e:gJ x=some k)(r:rel K ρ H x v):v=kV k:=by
 cases x<;>simp only[gJ,reduceCtorEq,Option.some.injEq] at e<;>(subst e;rw[rel] at r;exact r)
abbrev RK(K:PySem.W.Frag)(ρ :List Addr)(H:Hp)(kvs:List (Key × PV))(kws:List (Key × V)):Prop:=Paired (λ(p:Key × PV) (q:Key × V)=>p.1=q.1/\rel K ρ H p.2 q.2) kvs kws
theorem RK.val{ρ :List Addr}{H:Hp}: ∀{kvs:List (Key × PV)}{kws:List (Key × V)}(k:Key),RK K ρ H kvs kws->match bV kvs k,gz kws k with
  | some x,some v=>rel K ρ H x v
  | none,none=>True
  | _,_=>False
 | _,_,k,.nil=>trivial
 | _,_,k,.cons (a:=p) (b:=q) r t=>by
  have ih:=RK.val k t;unfold bV gz at ih ⊢;rw[List.find?_cons,List.find?_cons,<- r.1];by_cases e:p.1=k
  . simp only[e,decide_true,Option.map_some];exact r.2
  . simp only[e,decide_false];exact ih
theorem RK.some{ρ :List Addr}{H:Hp}{kvs:List (Key × PV)}{kws:List (Key × V)}{k:Key}{x:PV}(r:RK K ρ H kvs kws)(e:bV kvs k=some x): ∃ v,gz kws k=some v/\rel K ρ H x v:=by
 have:=RK.val k r;rw[e] at this;cases q:gz kws k with
 | none=>rw[q] at this;exact False.elim this
 | some v=>rw[q] at this;exact⟨v,rfl,this⟩
theorem RK.is{ρ :List Addr}{H:Hp}{kvs:List (Key × PV)}{kws:List (Key × V)}(k:Key)(r:RK K ρ H kvs kws):(gz kws k).isSome=(bV kvs k).isSome:=by
 have:=RK.val k r;cases p:bV kvs k<;>cases q:gz kws k<;>rw[p,q] at this<;>first | rfl | exact False.elim this
theorem RK.len{ρ :List Addr}{H:Hp}{kvs:List (Key × PV)}{kws:List (Key × V)}(r:RK K ρ H kvs kws):kvs.length=kws.length:=Paired.length r
theorem RK.any{ρ :List Addr}{H:Hp}: ∀{kvs:List (Key × PV)}{kws:List (Key × V)}(k:Key),RK K ρ H kvs kws->(kws.any λkv=>decide (kv.1=k))=kvs.any λkv=>decide (kv.1=k)
 | _,_,k,.nil=>rfl
 | _,_,k,.cons (a:=p) (b:=q) r t=>by rw[List.any_cons,List.any_cons,RK.any k t,r.1]
theorem RK.zm{ρ :List Addr}{H:Hp}{k:Key}{x:PV}{v:V}(h:rel K ρ H x v): ∀{kvs:List (Key × PV)}{kws:List (Key × V)},RK K ρ H kvs kws->RK K ρ H (kvs.map λkv=>if kv.1=k then(kv.1,x) else kv) (kws.map λkv=>if kv.1=k then(kv.1,v) else kv)
 | _,_,.nil=> .nil
 | _,_,.cons (a:=p) (b:=q) a t=> .cons (by
   show(if p.1=k then(p.1,x) else p).1=(if q.1=k then(q.1,v) else q).1/\rel K ρ H (if p.1=k then(p.1,x) else p).2 (if q.1=k then(q.1,v) else q).2;rw[<- a.1];split
   . exact⟨rfl,h⟩
   . exact a) (RK.zm h t)
theorem RK.snoc{ρ :List Addr}{H:Hp}{k:Key}{x:PV}{v:V}(h:rel K ρ H x v): ∀{kvs:List (Key × PV)}{kws:List (Key × V)},RK K ρ H kvs kws->RK K ρ H (kvs++[(k,x)]) (kws++[(k,v)])
 | _,_,.nil=> .cons ⟨rfl,h⟩ .nil
 | _,_,.cons a t=> .cons a (RK.snoc h t)
theorem RK.put{ρ :List Addr}{H:Hp}{kvs:List (Key × PV)}{kws:List (Key × V)}{k:Key}{x:PV}{v:V}(r:RK K ρ H kvs kws)(h:rel K ρ H x v):RK K ρ H (eQ kvs k x) (putK kws k v):=by
 unfold eQ putK;rw[RK.any k r];split
 . exact RK.zm h r
 . exact RK.snoc h r
noncomputable def ar:PV->PV->PH->RV PV:=λx y h=>match x with
 | .tup xs=>(match y with
  | .int i=>(match eP xs i with | some v=> .ok v h | none=> .no)
  | _=> .no)
 | .ktup xs=>(match y with
  | .int i=>(match eP xs i with | some v=> .ok v h | none=> .no)
  | _=> .no)
 | .str z=>(match y with
  | .int i=>kr z.length (match eP z.cps.toList i with | some c=> .ok (.str ⟨#[c]⟩) h | none=> .no)
  | _=> .no)
 | .ref n=>(match h[n]? with
  | some (.dct kvs)=>(match gJ y with
   | some k=>(match bV kvs k with | some v=> .ok v h | none=> .no)
   | none=> .no)
  | some (.lst xs)=>(match y with
   | .int i=>(match eP xs i with | some v=> .ok v h | none=> .no)
   | _=> .no)
  | some (.kD xs)=>(match y with
   | .int i=>(match eP xs i with | some v=> .ok v h | none=> .no)
   | _=> .no)
  | none=> .no)
 | _=> .no
theorem aw.at{ρ :List Addr}{H:Hp}{xs:List PV}{vs:List V}{i:Int}{x:PV}(r:aw K ρ H xs vs)(e:eP xs i=some x): ∃ v,eP vs i=some v/\rel K ρ H x v:=by
 unfold eP at e ⊢;rw[<- r.len];cases q:qW xs.length i with
 | none=>rw[q] at e;exact nomatch e
 | some j =>
  rw [q] at e
  exact r.get e
noncomputable def Qv:R2:=λx y H Q=> ∃ a v,x= .ref a∧i5 H a y (some v)∧Q v H
theorem xP (hu : X.A.units + 1 < cLine) : yi X Qv := by
  intro value slice pins s σ H x y v u Q I rx ry h hs;obtain ⟨a, w, rfl, g, q⟩ := h;obtain rfl : v = Value.ref a := rx;have hT : s.TypeIs (.ref a) "dict" := tP I g;unfold subscriptTail;refine wpAny_bind ?_;rw [getitemInPython_of_ne hT.not_modules];refine wpAny_bind (wpAny_specialOf hT PySem.F.slot_dict_getitem.lookup ?_);have fin : wpAny (model X.prog X.w) X.A (subscripted slice false (.ref a) u) (λr s₃ => wpAny (model X.prog X.w) X.A (letTemporaryGo value (.ref a) r >>= λ_ => pure r) (EP X pins σ Q) X.xe s₃) X.xe s := by
    rw [hs];exact wpAny_operating (yd hu I g ry λw' s' I' r' => wpAny_bind (wpAny_letTemporaryGo (wpAny_pure ⟨w, H, I', r', q⟩)))
  first
    | exact wpAny_pure (wpAny_bind fin)
    | exact wpAny_bind (wpAny_pure (wpAny_bind fin))
    | exact wpAny_bind fin
theorem dh.hu{X:Cx}{pg:Tb}{k:Nat}(A:dh X pg k):X.A.units+1 < cLine:=Mv A.room
theorem Pd:dh X pg k-> ∃ r,yi X r/\lQ X.K r ar:=λA=>⟨_,Gq.or (xP A.hu),fun ρ h H x y x' y' Q v h' s rx ry q P=>by
 cases x with
 | tup xs =>
  cases y with
  | int i =>
   simp only[ar] at q
   split at q
   . rename_i w e;cases q;obtain⟨a,vs,rfl,z,r⟩:=rel.seq (x:= .tup xs) rfl rx;obtain⟨u,e1,e2⟩:=r.at e;rw[rel] at ry;exact .inl (.inr (.inl ⟨a,vs,i,u,rfl,ry,z,e1,P _ ρ H (.refl _ _) s e2⟩))
   . exact nomatch q
  | _=>exact nomatch q
 | ktup xs =>
  cases y with
  | int i =>
   simp only[ar] at q
   split at q
   . rename_i w e;cases q;obtain⟨a,vs,rfl,z,r⟩:=rel.seq (x:= .ktup xs) rfl rx;obtain⟨u,e1,e2⟩:=r.at e;rw[rel] at ry;exact .inl (.inr (.inl ⟨a,vs,i,u,rfl,ry,z,e1,P _ ρ H (.refl _ _) s e2⟩))
   . exact nomatch q
  | _=>exact nomatch q
 | str z =>
  cases y with
  | int i =>
   simp only[ar] at q
   obtain⟨hl,q⟩:=jo.mp q
   split at q
   . rename_i c e;cases q;rw[rel] at ry;rw[rel] at rx;exact .inl (.inr (.inr ⟨z,i,c,rx,ry,hl,e,P _ ρ H (.refl _ _) s (by rw[rel])⟩))
   . exact nomatch q
  | _=>exact nomatch q
 | ref n =>
  simp only[ar] at q
  split at q
  . rename_i kvs e;split at q
    . rename_i key ek;split at q
      . rename_i w ew;cases q;rw[rel] at rx;obtain⟨a,ea,rfl⟩:=rx;obtain⟨kws,e1,e2⟩:=s.ob n _ a e ea;obtain⟨u,e3,e4⟩:=RK.some e2 ew;have:=fG ek ry;subst this;exact .inr ⟨a,u,rfl,e3 ▸ i5.k (k:=key) e1,P _ ρ H (.refl _ _) s e4⟩
      . exact nomatch q
    . exact nomatch q
  . rename_i xs e;cases y with
    | int i =>
     simp only at q
     split at q
     . rename_i w ew;cases q;obtain⟨a,vs,rfl,_,z,r⟩:=s.lst e rx;obtain⟨u,e1,e2⟩:=r.at ew;rw[rel] at ry;exact .inl (.inl ⟨a,vs,i,u,rfl,ry,.of z,e1,P _ ρ H (.refl _ _) s e2⟩)
     . exact nomatch q
    | _=>exact nomatch q
  . rename_i xs e;cases y with
    | int i =>
     simp only at q
     split at q
     . rename_i w ew;cases q;obtain⟨a,vs,rfl,_,z,r⟩:=s.kD e rx;obtain⟨u,e1,e2⟩:=r.at ew;rw[rel] at ry;exact .inl (.inl ⟨a,vs,i,u,rfl,ry,z,e1,P _ ρ H (.refl _ _) s e2⟩)
     . exact nomatch q
    | _=>exact nomatch q
  . exact nomatch q
 | _=>exact nomatch q⟩
theorem NP{f:PV->PV->PH->RV PV}{a b:Expr}{ma mb:ME}{pos:Pos}(hr:dh X pg k-> ∃ r,yi X r/\lQ X.K r f)(ha:JE X pg k a ma)(hb:JE X pg k b mb)(hs:qj b):JE X pg k (.Subscript a b pos) (ag f ma mb):=⟨λA =>
 let ⟨_,q1,s1⟩:=ha.h A;let ⟨_,q2,s2⟩:=hb.h A;let ⟨_,q,s⟩:=hr A;⟨_,LF q q1 q2 hs,wR s s1 s2⟩⟩
noncomputable def i7:PV->PV->PV->PH->RV Unit:=λx y v h=>match x with
 | .ref n=>(match h[n]? with
  | some (.dct kvs)=>(match gJ y with
   | some k=>if kvs.length < sizeLine then .ok () (h.set n (.dct (eQ kvs k v))) else .no
   | none=> .no)
  | some (.lst xs)=>(match y with
   | .int i=>(match qW xs.length i with | some j=> .ok () (h.set n (.lst (xs.set j v))) | none=> .no)
   | _=> .no)
  | _=> .no)
 | _=> .no
noncomputable def L6:zA:=λo i v H Q=> ∃ a H',o= .ref a/\uN H a i v H'/\Q H'
theorem set_dict(hu:X.A.units+1 < cLine):oI X L6:=by
 intro pins s σ H o i v ov iv u Q I ro ri rv h;obtain⟨a,H',rfl,g,q⟩:=h;obtain rfl:ov=Value.ref a:=ro;exact xc hu I g ri rv λs' I'=>⟨H',I',q⟩
theorem oI.or{t t':zA}(h:oI X t)(h':oI X t'):oI X (λo i v H Q=>t o i v H Q\/t' o i v H Q):=by
 intro pins s σ H o i v ov iv u Q I ro ri rv q;rcases q with q | q
 . exact h pins s σ H o i v ov iv u Q I ro ri rv q
 . exact h' pins s σ H o i v ov iv u Q I ro ri rv q
theorem M6:dh X pg k-> ∃ t,oI X t/\ ∀ ρ h H x y v x' y' v' u h' Q,dc X.K ρ h H->rel X.K ρ H x x'->rel X.K ρ H y y'->rel X.K ρ H v v'->i7 x y v h= .ok u h'->lH X.K ρ H h' Q->t x' y' v' H Q:=λA =>
 ⟨_,oI.or set_list (set_dict A.hu),fun ρ h H x y v x' y' v' u h' Q s rx ry rv q P=>by
 cases x with
 | ref n =>
  simp only[i7] at q
  rw[rel] at rx
  obtain⟨a,ea,rfl⟩:=rx
  split at q
  . rename_i kvs e;split at q
    . rename_i key ek;split at q
      . rename_i hl;cases q;obtain⟨kws,e1,e2⟩:=s.ob n _ a e ea;have:=fG ek ry;subst this;refine .inr ⟨a,_,rfl,uN.k e1 (by rw[<- RK.len e2];exact hl),?_⟩;have g:Gr ρ H ρ (upd H a (.dK (putK kws key v'))):=Gr.write (.inr ⟨_,e1⟩);exact P ρ _ g (s.write e ea rfl rfl ⟨_,bc,Paired.eZ g (RK.put e2 rv)⟩)
      . exact nomatch q
    . exact nomatch q
  . rename_i xs e;cases y with
    | int i =>
     simp only at q
     split at q
     . rename_i j ej;cases q;obtain⟨vs,e1,e2⟩:=s.ob n _ a e ea;rw[rel] at ry;have g:Gr ρ H ρ (upd H a (.lst (vs.set j v'))):=Gr.write (.inl ⟨_,e1⟩);exact .inl ⟨a,vs,i,j,rfl,ry,e1,by rw[<- e2.len];exact ej,P ρ _ g (s.write e ea rfl rfl ⟨_,bc,aw.gr g _ _ (e2.set j rv)⟩)⟩
     . exact nomatch q
    | _=>exact nomatch q
  . exact nomatch q
 | _=>exact nomatch q⟩
end
mutual
def cj(K:PySem.W.Frag)(H:Hp):PyData->V->Prop
 | .none,v=>v= .non
 | .bool b,v=>v= .bl b
 | .int i,v=>v= .int i
 | .str x,v=>v= .str x
 | .list xs,v=> ∃ a vs,v= .ref a/\gi K H a vs/\fw K H xs vs
 | .tuple xs,v=> ∃ a vs,v= .ref a/\fe K H a vs/\fw K H xs vs
 | .dict _,_=>False
def fw(K:PySem.W.Frag)(H:Hp):List PyData->List V->Prop
 | [],vs=>vs=[]
 | x::r,vs=> ∃ v t,vs=v::t/\cj K H x v/\fw K H r t
end
mutual
theorem cj.reads{X:Cx}{pins:List (Addr × Obj)}{σ :L2.St}{H:Hp}{s:Shared}(I:Inv X pins σ H s): ∀(d:PyData)(v:V)(u:Value),cj X.K H d v->RelV v u-> ∃ as,Reads s.heap u d as
 | .none,v,u,h,r=>by rw[cj] at h;subst h;cases(show u=Value.none from r);exact⟨_,.none⟩
 | .bool b,v,u,h,r=>by rw[cj] at h;subst h;cases(show u=Value.bool b from r);exact⟨_,.bool b⟩
 | .int i,v,u,h,r=>by rw[cj] at h;subst h;obtain⟨t,rfl⟩:=(show ∃ t,u=Value.int i t from r);exact⟨_,.int i t⟩
 | .str x,v,u,h,r=>by rw[cj] at h;subst h;obtain⟨t,rfl⟩:=(show ∃ t,u=Value.str x t from r);exact⟨_,.str x t⟩
 | .list xs,v,u,h,r=>by
  rw[cj] at h;obtain⟨a,vs,rfl,z,q⟩:=h;cases(show u=Value.ref a from r);obtain⟨av,rv,⟨o,n,e,c,_,dd⟩,_⟩:=I.list z;obtain⟨as,ra⟩:=fw.reads I xs vs av q rv;exact⟨_,.list e c dd (by simpa using ra)⟩
 | .tuple xs,v,u,h,r=>by
  rw[cj] at h;obtain⟨a,vs,rfl,z,q⟩:=h;cases(show u=Value.ref a from r);obtain⟨av,rv,⟨o,e,c,n,dd⟩,_⟩:=I.tuple z;obtain⟨as,ra⟩:=fw.reads I xs vs av q rv;exact⟨_,.tuple e c dd (by simpa using ra)⟩
 | .dict _,v,u,h,r=>by rw[cj] at h;exact h.elim
theorem fw.reads{X:Cx}{pins:List (Addr × Obj)}{σ :L2.St}{H:Hp}{s:Shared}(I:Inv X pins σ H s): ∀(xs:List PyData)(vs:List V)(us:List Value),fw X.K H xs vs->Vals vs us-> ∃ as,ReadsAll s.heap us xs as
 | [],vs,us,h,r=>by rw[fw] at h;subst h;cases r;exact⟨_,.nil⟩
 | x::t,vs,us,h,r=>by
  rw[fw] at h;obtain⟨v,w,rfl,h1,h2⟩:=h;cases r with
  | cons r1 r2 =>
   obtain⟨as,a⟩:=cj.reads I x v _ h1 r1
   obtain⟨bs,b⟩:=fw.reads I t w _ h2 r2
   exact⟨_,.cons a b⟩
end
mutual
def hU(sub:Nat->Option PyData):PV->Option PyData
 | .non=>some .none
 | .bl b=>some (.bool b)
 | .int i=>some (.int i)
 | .str x=>some (.str x)
 | .tup xs=>(cA sub xs).map .tuple
 | .ktup xs=>(cA sub xs).map .tuple
 | .ref n=>sub n
 | .ty _=>none
def cA(sub:Nat->Option PyData):List PV->Option (List PyData)
 | []=>some []
 | x::r=>match hU sub x,cA sub r with
  | some d1,some ds1=>some (d1::ds1)
  | _,_=>none
end
noncomputable def dat:Nat->PH->PV->Option PyData
 | 0,_=>hU λ_=>none
 | n+1,h=>hU λm=>match h[m]? with
  | some (.lst xs)=>(cA (λj=>dat n h (.ref j)) xs).map .list
  | some (.kD xs)=>(cA (λj=>dat n h (.ref j)) xs).map .list
  | _=>none
mutual
theorem hU.v{K:PySem.W.Frag}{ρ :List Addr}{H:Hp}{sub:Nat->Option PyData}(hs: ∀ n d v,sub n=some d->rel K ρ H (.ref n) v->cj K H d v): ∀(x:PV)(d:PyData)(v:V),hU sub x=some d->rel K ρ H x v->cj K H d v
 | .non,d,v,e,r=>by cases e;rw[rel] at r;rw[cj];exact r
 | .bl b,d,v,e,r=>by cases e;rw[rel] at r;rw[cj];exact r
 | .int b,d,v,e,r=>by cases e;rw[rel] at r;rw[cj];exact r
 | .str b,d,v,e,r=>by cases e;rw[rel] at r;rw[cj];exact r
 | .ty b,d,v,e,r=>by exact nomatch e
 | .ref n,d,v,e,r=>hs n d v e r
 | .tup xs,d,v,e,r=>by
  rw[hU] at e;cases q:cA sub xs with
  | none=>rw[q] at e;exact nomatch e
  | some ds =>
   rw[q] at e;cases e
   obtain⟨a,vs,e1,e2,e3⟩:=rel.seq (x:= .tup xs) rfl r
   rw[cj];exact⟨a,vs,e1,e2,cA.v hs xs ds vs q e3⟩
 | .ktup xs,d,v,e,r=>by
  rw[hU] at e;cases q:cA sub xs with
  | none=>rw[q] at e;exact nomatch e
  | some ds =>
   rw[q] at e;cases e
   obtain⟨a,vs,e1,e2,e3⟩:=rel.seq (x:= .ktup xs) rfl r
   rw[cj];exact⟨a,vs,e1,e2,cA.v hs xs ds vs q e3⟩
theorem cA.v{K:PySem.W.Frag}{ρ :List Addr}{H:Hp}{sub:Nat->Option PyData}(hs: ∀ n d v,sub n=some d->rel K ρ H (.ref n) v->cj K H d v): ∀(xs:List PV)(ds:List PyData)(vs:List V),cA sub xs=some ds->aw K ρ H xs vs->fw K H ds vs
 | [],ds,vs,e,r=>by cases e;rw[aw] at r;rw[fw];exact r
 | x::t,ds,vs,e,r=>by
  rw[cA] at e;split at e
  . rename_i d ds' e1 e2;cases e;obtain⟨v,w,rfl,r1,r2⟩:=aC.mp r;rw[fw];exact⟨v,w,rfl,hU.v hs x d v e1 r1,cA.v hs t ds' w e2 r2⟩
  . exact nomatch e
end
theorem dat.v{K:PySem.W.Frag}{ρ :List Addr}{h:PH}{H:Hp}(s:dc K ρ h H): ∀(n:Nat)(x:PV)(d:PyData)(v:V),dat n h x=some d->rel K ρ H x v->cj K H d v
 | 0,x,d,v,e,r=>hU.v (λ_ _ _ z _=>by cases z) x d v e r
 | n+1,x,d,v,e,r=>by
  refine hU.v (λm d' v' z rv=>?_) x d v e r;split at z
  . rename_i xs em;cases q:cA (λj=>dat n h (.ref j)) xs with
    | none=>rw[q] at z;exact nomatch z
    | some ds =>
     rw[q] at z;cases z
     obtain⟨a,vs,e1,_,e2,e3⟩:=s.lst em rv
     rw[cj];exact⟨a,vs,e1,.of e2,cA.v (λj d v z rv=>dat.v s n (.ref j) d v z rv) xs ds vs q e3⟩
  . rename_i xs em;cases q:cA (λj=>dat n h (.ref j)) xs with
    | none=>rw[q] at z;exact nomatch z
    | some ds =>
     rw[q] at z;cases z
     obtain⟨a,vs,e1,_,e2,e3⟩:=s.kD em rv
     rw[cj];exact⟨a,vs,e1,e2,cA.v (λj d v z rv=>dat.v s n (.ref j) d v z rv) xs ds vs q e3⟩
  . exact nomatch z
section
variable{K:PySem.W.Frag}{X:Cx}{pg:Tb}{k:Nat}
noncomputable def L7(K:PySem.W.Frag)(f:Bool->Bool):R2:=λx y H Q=> ∃ d d',cj K H d x/\cj K H d' y/\d.canLay0=true/\d'.canLay0=true/\min d.depth d'.depth<=64/\Q (.bl (f (PyData.eqv d d'))) H
theorem Ip(hr:X.A.units+64 < cLine):di X (compareOp .Eq) (L7 X.K id):=by
 intro pins s σ H x y v u Q I rx ry ⟨d,d',h1,h2,c1,c2,hd,q⟩;obtain⟨as,ra⟩:=cj.reads I d x v h1 rx;obtain⟨bs,rb⟩:=cj.reads I d' y u h2 ry;exact SeqAt.compareEq_reads ra rb c1 c2 (by omega) ⟨.bl _,H,I,rfl,q⟩
theorem Ig(hr:X.A.units+64 < cLine):di X (compareOp .NotEq) (L7 X.K not):=by
 intro pins s σ H x y v u Q I rx ry ⟨d,d',h1,h2,c1,c2,hd,q⟩;obtain⟨as,ra⟩:=cj.reads I d x v h1 rx;obtain⟨bs,rb⟩:=cj.reads I d' y u h2 ry;exact SeqAt.compareNe_reads ra rb c1 c2 (by omega) ⟨.bl _,H,I,rfl,q⟩
noncomputable def gZ:PV->PV->Bool
 | .non,.non=>true | .non,.int _=>true | .int _,.non=>true | .non,.bl _=>true | .bl _,.non=>true | .non,.str _=>true | .str _,.non=>true
 | .int _,.int _=>true | .bl _,.bl _=>true | .str _,.str _=>true
 | .int _,.str _=>true | .str _,.int _=>true | .bl _,.str _=>true | .str _,.bl _=>true
 | _,_=>false
noncomputable def eg(h:PH):PV->Bool
 | .ref n=>(match h[n]? with
  | some (.dct _)=>true
  | _=>false)
 | _=>false
noncomputable def isStr:PV->Bool
 | .str _=>true
 | _=>false
noncomputable def alike(x y:PV)(h:PH):Option Bool :=
 if gZ x y=true then some (decide (x=y)) else match dat 6 h x,dat 6 h y with
  | some a,some b=>if a.canLay0=true/\b.canLay0=true/\min a.depth b.depth<=64 then some (PyData.eqv a b) else none
  | _,_=>if eg h x=true/\isStr y=true then some false else none
noncomputable def cm(x y:PV)(h:PH):RV PV:=match alike x y h with
 | some b=> .ok (.bl b) h
 | none=> .no
noncomputable def fX (x y:PV) (h:PH):RV PV:=match alike x y h with
 | some b=>if eg h x=true then .no else .ok (.bl (!b)) h
 | none=> .no
theorem Bu {ρ : List Addr} {H : Hp} {x y : PV} {x' y' : V} (h : gZ x y = true) (rx : rel K ρ H x x') (ry : rel K ρ H y y') : Ab x' y' = true /\ decide (x' = y') = decide (x = y) := by
  cases x <;> cases y <;> first
    | (exfalso; revert h; simp [gZ]; done)
    | (rw [rel] at rx; rw [rel] at ry; subst rx; subst ry; simp [Ab])
theorem oF{ρ :List Addr}{h:PH}{H:Hp}{x y:PV}{x' y':V}{b:Bool}(s:dc K ρ h H)(rx:rel K ρ H x x')(ry:rel K ρ H y y')(e:alike x y h=some b) :
  (Ab x' y'=true/\b=decide (x'=y'))\/(∃ d d',cj K H d x'/\cj K H d' y'/\d.canLay0=true/\d'.canLay0=true/\min d.depth d'.depth<=64/\b=PyData.eqv d d') \/
  (eg h x=true/\b=false/\ ∃ p z,x'= .ref p/\y'= .str z/\ ∃ kvs,H p=some (.dK kvs)):=by
 unfold alike at e;split at e
 . rename_i hs;cases e;obtain⟨z,w⟩:=Bu hs rx ry;exact .inl ⟨z,w.symm⟩
 . split at e
   . rename_i a c e1 e2;split at e
     . rename_i hc;cases e;exact .inr (.inl ⟨a,c,dat.v s 6 x a x' e1 rx,dat.v s 6 y c y' e2 ry,hc.1,hc.2.1,hc.2.2,rfl⟩)
     . exact nomatch e
   . split at e
     . rename_i hc;cases e;refine .inr (.inr ⟨hc.1,rfl,?_⟩);obtain⟨c1,c2⟩:=hc;cases x with
       | ref n =>
        cases y with
        | str z =>
         rw[rel] at ry
         rw[rel] at rx
         obtain⟨a,ea,rfl⟩:=rx
         simp only[eg] at c1
         split at c1
         . rename_i kvs en;obtain⟨kws,e1,_⟩:=s.ob n _ a en ea;exact⟨a,z,rfl,ry,kws,e1⟩
         . exact nomatch c1
        | _=>exact nomatch c2
       | _=>exact nomatch c1
     . exact nomatch e
theorem OY:dh X pg k-> ∃ r,di X (compareOp .Eq) r/\lQ X.K r cm:=λA=>⟨_,LP.or ((Ip A.room.units).or (Dh A.room.Ja)),fun ρ h H x y x' y' Q v h' s rx ry q P=>by
 unfold cm at q;split at q
 . rename_i b e;cases q;have fin:Q (.bl b) H:=P _ ρ H (.refl _ _) s (by rw[rel]);rcases oF s rx ry e with⟨z,rfl⟩ | ⟨d,d',h1,h2,h3,h4,h5,rfl⟩ | ⟨_,rfl,p,z,e1,e2,kvs,e3⟩
   . exact .inl ⟨z,fin⟩
   . exact .inr (.inl ⟨d,d',h1,h2,h3,h4,h5,fin⟩)
   . exact .inr (.inr ⟨p,z,e1,e2,.inr (.inr ⟨kvs,e3⟩),fin⟩)
 . exact nomatch q⟩
theorem OI:dh X pg k-> ∃ r,di X (compareOp .NotEq) r/\lQ X.K r fX:=λA=>⟨_,Le.or (Ig A.room.units),fun ρ h H x y x' y' Q v h' s rx ry q P=>by
 unfold fX at q;split at q
 . rename_i b e;split at q
   . exact nomatch q
   . rename_i hd;cases q;have fin:Q (.bl (!b)) H:=P _ ρ H (.refl _ _) s (by rw[rel]);rcases oF s rx ry e with⟨z,rfl⟩ | ⟨d,d',h1,h2,h3,h4,h5,rfl⟩ | ⟨z,_⟩
     . exact .inl ⟨z,fin⟩
     . exact .inr ⟨d,d',h1,h2,h3,h4,h5,fin⟩
     . exact absurd z hd
 . exact nomatch q⟩
noncomputable def Lg(K:PySem.W.Frag)(f:Bool->Bool):R2:=λx y H Q=> ∃ p vs xs d,y= .ref p/\(gi K H p vs\/fe K H p vs)/\fw K H xs vs/\cj K H d x/\PyData.canLayAll0 xs=true/\d.canLay0=true/\min (PyData.depthAll xs) d.depth<=60/\Q (.bl (f (xs.any λz=>PyData.eqv z d))) H
theorem ID(hr:X.A.units+64 < cLine):di X (compareOp .In) (Lg X.K id):=by
 intro pins s σ H x y v u Q I rx ry ⟨p,vs,xs,d,e,hq,h1,h2,c1,c2,hd,q⟩;subst e;obtain⟨bs,rb⟩:=cj.reads I d x v h2 rx;rcases hq with hq | hq
 . obtain⟨as,ra⟩:=cj.reads I (.list xs) (.ref p) u (by rw[cj];exact⟨p,vs,rfl,hq,h1⟩) ry;exact SeqAt.in_list_reads ra rb c1 c2 (by omega) ⟨.bl _,H,I,rfl,q⟩
 . obtain⟨as,ra⟩:=cj.reads I (.tuple xs) (.ref p) u (by rw[cj];exact⟨p,vs,rfl,hq,h1⟩) ry;exact SeqAt.in_tuple_reads ra rb c1 c2 (by omega) ⟨.bl _,H,I,rfl,q⟩
theorem xw(hr:X.A.units+64 < cLine):di X (compareOp .NotIn) (Lg X.K not):=by
 intro pins s σ H x y v u Q I rx ry ⟨p,vs,xs,d,e,hq,h1,h2,c1,c2,hd,q⟩;subst e;obtain⟨bs,rb⟩:=cj.reads I d x v h2 rx;rcases hq with hq | hq
 . obtain⟨as,ra⟩:=cj.reads I (.list xs) (.ref p) u (by rw[cj];exact⟨p,vs,rfl,hq,h1⟩) ry;exact SeqAt.notIn_list_reads ra rb c1 c2 (by omega) ⟨.bl _,H,I,rfl,q⟩
 . obtain⟨as,ra⟩:=cj.reads I (.tuple xs) (.ref p) u (by rw[cj];exact⟨p,vs,rfl,hq,h1⟩) ry;exact SeqAt.notIn_tuple_reads ra rb c1 c2 (by omega) ⟨.bl _,H,I,rfl,q⟩
noncomputable def MX(f:Bool->Bool):R2:=λx y H Q=> ∃ a o,y= .ref a/\i5 H a x o/\Q (.bl (f o.isSome)) H
theorem Hw(hu:X.A.units+1 < cLine):di X (compareOp .In) (MX id):=by
 intro pins s σ H x y v u Q I rx ry ⟨a,o,e,g,q⟩;subst e;obtain rfl:u=Value.ref a:=ry;exact Oy hu I g rx λs' I'=>⟨.bl _,H,I',rfl,q⟩
theorem yj(hu:X.A.units+1 < cLine):di X (compareOp .NotIn) (MX not):=by
 intro pins s σ H x y v u Q I rx ry ⟨a,o,e,g,q⟩;subst e;obtain rfl:u=Value.ref a:=ry;exact Fg hu I g rx λs' I'=>⟨.bl _,H,I',rfl,q⟩
noncomputable def itemsOf(h:PH):PV->Option (List PV)
 | .tup xs=>some xs
 | .ktup xs=>some xs
 | .ref n=>de h n
 | _=>none
theorem dc.items{ρ :List Addr}{h:PH}{H:Hp}(s:dc K ρ h H){x:PV}{xs:List PV}{v:V}(e:itemsOf h x=some xs)(r:rel K ρ H x v): ∃ a vs,v= .ref a/\(gi K H a vs\/fe K H a vs)/\aw K ρ H xs vs:=by
 cases x with
 | tup ys=>cases e;obtain⟨a,vs,e1,e2,e3⟩:=rel.seq (x:= .tup xs) rfl r;exact⟨a,vs,e1,.inr e2,e3⟩
 | ktup ys=>cases e;obtain⟨a,vs,e1,e2,e3⟩:=rel.seq (x:= .ktup xs) rfl r;exact⟨a,vs,e1,.inr e2,e3⟩
 | ref n=>obtain⟨a,vs,e1,_,e2,e3⟩:=s.sq e r;exact⟨a,vs,e1,.inl e2,e3⟩
 | _=>exact nomatch e
noncomputable def fV:PV->Bool
 | .non=>true
 | .bl _=>true
 | .int _=>true
 | .str _=>true
 | _=>false
noncomputable def KS:PV->PV->Bool
 | .non,.non=>true
 | .bl a,.bl b=>a == b
 | .bl a,.int b=>(if a then 1 else 0) == b
 | .int a,.bl b=>a == (if b then 1 else 0)
 | .int a,.int b=>a == b
 | .str a,.str b=>a == b
 | _,_=>false
theorem sE {ρ :List Addr} {H:Hp} {x:PV} {v:V} (h:fV x=true) (r:rel K ρ H x v):g7 v=true:=by
 cases x<;>first | (exfalso;revert h;simp [fV];done) | (rw [rel] at r;subst r;rfl)
theorem D0 {ρ : List Addr} {H : Hp} {x y : PV} {v w : V} (hx : fV x = true) (hy : fV y = true) (rx : rel K ρ H x v) (ry : rel K ρ H y w) : C1 v w = KS x y := by
  cases x <;> first
    | (exfalso; revert hx; simp [fV]; done)
    | (cases y <;> first
        | (exfalso; revert hy; simp[fV]; done)
        | (rw[rel] at rx; rw[rel] at ry; subst rx; subst ry; rfl))
theorem FV{ρ :List Addr}{H:Hp}{x:PV}{v:V}(hx:fV x=true)(rx:rel K ρ H x v): ∀{xs:List PV}{vs:List V},xs.all fV=true->aw K ρ H xs vs->vs.all g7=true/\NM v vs=xs.any λz=>KS z x
 | [],vs,_,r=>by rw[aN] at r;subst r;exact⟨rfl,rfl⟩
 | y::t,vs,h,r=>by
  obtain⟨w,u,rfl,r1,r2⟩:=aC.mp r;simp only[Bool.and_eq_true,List.all_cons] at h;obtain⟨a,b⟩:=FV hx rx h.2 r2;refine⟨by rw[List.all_cons,sE h.1 r1,a];rfl,?_⟩;unfold NM at b ⊢;rw[List.any_cons,List.any_cons,b,D0 h.1 hx r1 rx]
noncomputable def isIn(x y:PV)(h:PH):Option Bool:=match itemsOf h y with
 | some xs=>if (fV x&&xs.all fV)=true then some (xs.any λz=>KS z x) else(match dat 6 h x,cA (λj=>dat 6 h (.ref j)) xs with
  | some d,some ds=>if PyData.canLayAll0 ds=true/\d.canLay0=true/\min (PyData.depthAll ds) d.depth<=60 then some (ds.any λz=>PyData.eqv z d) else none
  | _,_=>none)
 | none=>(match y with
  | .ref n=>(match h[n]? with
   | some (.dct kvs)=>(gJ x).map λk=>(bV kvs k).isSome
   | _=>none)
  | .str j=>(match x with
   | .str i=>some (!(Builtin.Str.occurrences j i 0 j.length 1).isEmpty)
   | _=>none)
  | _=>none)
noncomputable def jI(x y:PV)(h:PH):RV PV:=match isIn x y h with
 | some b=> .ok (.bl b) h
 | none=> .no
noncomputable def kZ(x y:PV)(h:PH):RV PV:=match isIn x y h with
 | some b=> .ok (.bl (!b)) h
 | none=> .no
theorem pB{ρ :List Addr}{h:PH}{H:Hp}{x y:PV}{x' y':V}{b:Bool}(s:dc K ρ h H)(rx:rel K ρ H x x')(ry:rel K ρ H y y')(e:isIn x y h=some b) :
  (∃ p xs,y'= .ref p/\(gi K H p xs\/fe K H p xs)/\g7 x'=true/\xs.all g7=true/\b=NM x' xs) \/
  (∃ p vs xs d,y'= .ref p/\(gi K H p vs\/fe K H p vs)/\fw K H xs vs/\cj K H d x'/\PyData.canLayAll0 xs=true/\d.canLay0=true/\min (PyData.depthAll xs) d.depth<=60/\b=xs.any λz=>PyData.eqv z d) \/
  (∃ a o,y'= .ref a/\i5 H a x' o/\b=o.isSome) \/
  (∃ i j,x'= .str i/\y'= .str j/\b= !(Builtin.Str.occurrences j i 0 j.length 1).isEmpty):=by
 unfold isIn at e;split at e
 . rename_i xs ei;obtain⟨a,vs,rfl,z,r⟩:=s.items ei ry;split at e
   . rename_i hf;cases e;rw[Bool.and_eq_true] at hf;obtain⟨f1,f2⟩:=FV hf.1 rx hf.2 r;exact .inl ⟨a,vs,rfl,z,sE hf.1 rx,f1,f2.symm⟩
   . split at e
     . rename_i d ds e1 e2;split at e
       . rename_i hc;cases e;exact .inr (.inl ⟨a,vs,ds,d,rfl,z,cA.v (λj d v w rv=>dat.v s 6 (.ref j) d v w rv) xs ds vs e2 r,dat.v s 6 x d x' e1 rx,hc.1,hc.2.1,hc.2.2,rfl⟩)
       . exact nomatch e
     . exact nomatch e
 . split at e
   . rename_i n ei;split at e
     . rename_i kvs en;cases q:gJ x with
       | none=>rw[q] at e;exact nomatch e
       | some key =>
        rw[q] at e
        cases e
        rw[rel] at ry
        obtain⟨a,ea,rfl⟩:=ry
        obtain⟨kws,e1,e2⟩:=s.ob n _ a en ea
        have:=fG q rx
        subst this
        exact .inr (.inr (.inl ⟨a,_,rfl,i5.k (k:=key) e1,(RK.is key e2).symm⟩))
     . exact nomatch e
   . split at e
     . cases e;rw[rel] at rx;rw[rel] at ry;exact .inr (.inr (.inr ⟨_,_,rx,ry,rfl⟩))
     . exact nomatch e
   . exact nomatch e
theorem Pa:dh X pg k-> ∃ r,di X (compareOp .In) r/\lQ X.K r jI:=λA=>⟨_,xK.or ((ID A.room.units).or ((Hw A.hu).or xh)),fun ρ h H x y x' y' Q v h' s rx ry q P=>by
 unfold jI at q;split at q
 . rename_i b e;cases q;have fin:Q (.bl b) H:=P _ ρ H (.refl _ _) s (by rw[rel]);rcases pB s rx ry e with⟨p,xs,e1,e2,e3,e4,rfl⟩ | ⟨p,vs,xs,d,e1,e2,e3,e4,e5,e6,e7,rfl⟩ | ⟨a,o,e1,e2,rfl⟩ | ⟨i,j,e1,e2,rfl⟩
   . exact .inl ⟨p,xs,e1,e2,e3,e4,fin⟩
   . exact .inr (.inl ⟨p,vs,xs,d,e1,e2,e3,e4,e5,e6,e7,fin⟩)
   . exact .inr (.inr (.inl ⟨a,o,e1,e2,fin⟩))
   . exact .inr (.inr (.inr ⟨i,j,e1,e2,fin⟩))
 . exact nomatch q⟩
theorem Dp:dh X pg k-> ∃ r,di X (compareOp .NotIn) r/\lQ X.K r kZ:=λA=>⟨_,qc.or ((xw A.room.units).or ((yj A.hu).or qb)),fun ρ h H x y x' y' Q v h' s rx ry q P=>by
 unfold kZ at q;split at q
 . rename_i b e;cases q;have fin:Q (.bl (!b)) H:=P _ ρ H (.refl _ _) s (by rw[rel]);rcases pB s rx ry e with⟨p,xs,e1,e2,e3,e4,rfl⟩ | ⟨p,vs,xs,d,e1,e2,e3,e4,e5,e6,e7,rfl⟩ | ⟨a,o,e1,e2,rfl⟩ | ⟨i,j,e1,e2,rfl⟩
   . exact .inl ⟨p,xs,e1,e2,e3,e4,fin⟩
   . exact .inr (.inl ⟨p,vs,xs,d,e1,e2,e3,e4,e5,e6,e7,fin⟩)
   . exact .inr (.inr (.inl ⟨a,o,e1,e2,fin⟩))
   . exact .inr (.inr (.inr ⟨i,j,e1,e2,fin⟩))
 . exact nomatch q⟩
noncomputable def dO(neg:Bool)(x:PV)(h:PH):RV PV:= .ok (.bl (if neg then !decide (x= .non) else decide (x= .non))) h
theorem B6{ρ :List Addr}{H:Hp}{x:PV}{v:V}(r:rel K ρ H x v):decide (v= .non)=decide (x= .non):=by
 cases x with
 | non=>rw[rel] at r;subst r;rfl
 | bl=>rw[rel] at r;subst r;rfl
 | int=>rw[rel] at r;subst r;rfl
 | str=>rw[rel] at r;subst r;rfl
 | ty=>rw[rel] at r;subst r;rfl
 | tup=>rw[rel] at r;obtain⟨a,_,rfl,_⟩:=r;rfl
 | ktup=>rw[rel] at r;obtain⟨a,_,rfl,_⟩:=r;rfl
 | ref=>rw[rel] at r;obtain⟨a,_,rfl⟩:=r;rfl
variable{a:Expr}{ma:ME}{pos pos':Pos}
theorem uo{c:CF}{ta:TE}(neg:Bool)(s1:SE c K ta ma):SE c K (fun σ H Q=>ta σ H λx H1=>Q (.bl (if neg then !decide (x= .non) else decide (x= .non))) H1) (oH (dO neg) ma):=fun ρ h H e σ Q v h' s r q P=>by
 obtain⟨x,h1,e1,q⟩:=bind_eq.mp q;cases q;refine s1 ρ h H e σ _ x _ s r e1 λx' ρ1 H1 g1 z1 r1=>?_;rw[B6 r1];exact P _ ρ1 H1 g1 z1 (by rw[rel])
theorem Im{j:Nat}(ha:JE X pg k a ma):JE X pg k (.Compare a [.Is] [.Constant .none j pos'] pos) (oH (dO false) ma):=⟨λA=>let ⟨_,q1,s1⟩:=ha.h A;⟨_,IZ q1,uo false s1⟩⟩
theorem F4{j:Nat}(ha:JE X pg k a ma):JT X pg k (.Compare a [.Is] [.Constant .none j pos'] pos) (aq (oH (dO false) ma)):=⟨λA=>let ⟨_,q1,s1⟩:=ha.h A;⟨_,GH q1,rq (uo false s1)⟩⟩
theorem B2{j:Nat}(ha:JE X pg k a ma):JT X pg k (.Compare a [.IsNot] [.Constant .none j pos'] pos) (aq (oH (dO true) ma)):=⟨λA=>let ⟨_,q1,s1⟩:=ha.h A;⟨_,Dl q1,rq (uo true s1)⟩⟩
end
section
variable{K:PySem.W.Frag}{X:Cx}{pg:Tb}{k:Nat}
abbrev MO:=CF->ax->PH->RV (Option Int)
noncomputable def cn:MO:=λ_ _ h=> .ok none h
noncomputable def cq(a:ME):MO:=λc e h=>(a c e h).bind λv h1=>match v with
 | .int i=> .ok (some i) h1
 | _=> .no
noncomputable def dZ(xs:List PV)(lo hi:Option Int):List PV:=(xs.drop (HT.dj xs.length 0 lo)).take (HT.dj xs.length xs.length hi - HT.dj xs.length 0 lo)
noncomputable def Ck(x:PV)(lo hi:Option Int)(h:PH):RV PV:=match x with
 | .tup xs=> .ok (.tup (dZ xs lo hi)) h
 | .ref n=>(match de h n with
  | some xs=> .ok (.ref h.length) (h++[.lst (dZ xs lo hi)])
  | none=> .no)
 | _=> .no
noncomputable def jJ(a:ME)(l u:MO):ME:=λc e h=>(a c e h).bind λx h1=>(l c e h1).bind λlo h2=>(u c e h2).bind λhi h3=>Ck x lo hi h3
structure JO(X:Cx)(pg:Tb)(k:Nat)(e:Option Expr)(m:MO):Prop where
 h:dh X pg k-> ∃ t,QO X e t/\ ∀ ρ h H e σ Q o h',dc X.K ρ h H->dS X.K ρ H e σ ->m (run pg k) e h= .ok o h'->lH X.K ρ H h' (Q o)->t σ H Q
theorem CS:JO X pg k none cn:=⟨λA=>⟨_,DT,fun ρ h H e σ Q o h' s r q P=>by cases q;exact P ρ H (.refl _ _) s⟩⟩
theorem Cj{e:Expr}{ma:ME}(ha:JE X pg k e ma):JO X pg k (some e) (cq ma):=⟨λA=>let ⟨_,q1,s1⟩:=ha.h A;⟨_,EN q1,fun ρ h H e σ Q o h' s r q P=>by
 obtain⟨v,h1,e1,q⟩:=bind_eq.mp q;refine s1 ρ h H e σ _ v h1 s r e1 λv' ρ1 H1 g1 z1 r1=>?_;cases v with
 | int i=>cases q;rw[rel] at r1;exact⟨i,r1,P ρ1 H1 g1 z1⟩
 | _=>exact nomatch q⟩⟩
theorem aw.cut{ρ :List Addr}{H:Hp}{xs:List PV}{vs:List V}(r:aw K ρ H xs vs)(lo hi:Option Int):aw K ρ H (dZ xs lo hi) (lS vs lo hi):=by
 unfold dZ lS;rw[<- r.len];exact(r.drop _).take _
theorem Bb{e:Expr}{lo hi:Option Expr}{ma:ME}{ml mu:MO}{p2 pos:Pos}(ha:JE X pg k e ma)(hl:JO X pg k lo ml)(hh:JO X pg k hi mu):JE X pg k (.Subscript e (.Slice lo hi none p2) pos) (jJ ma ml mu):=⟨λA =>
 let ⟨_,q1,s1⟩:=ha.h A;let ⟨_,q2,s2⟩:=hl.h A;let ⟨_,q3,s3⟩:=hh.h A;⟨_,Bw Qq q1 q2 q3,fun ρ h H e σ Q v h' s r q P=>by
 obtain⟨x,h1,e1,q⟩:=bind_eq.mp q
 obtain⟨lo,h2,e2,q⟩:=bind_eq.mp q
 obtain⟨hi,h3,e3,q⟩:=bind_eq.mp q
 refine s1 ρ h H e σ _ x h1 s r e1 λx' ρ1 H1 g1 z1 r1=>?_
 refine s2 ρ1 h1 H1 e σ _ lo h2 z1 (r.gr g1) e2 fun ρ2 H2 g2 z2=>?_
 refine s3 ρ2 h2 H2 e σ _ hi h3 z2 (r.gr (g1.trans g2)) e3 fun ρ3 H3 g3 z3=>?_
 have r3:=rel.gr (K:=X.K) (g2.trans g3) _ _ r1
 have P3:=P.gr ((g1.trans g2).trans g3)
 cases x with
 | tup xs =>
  cases q
  rw[rel] at r3
  obtain⟨a,vs,rfl,d1,d2⟩:=r3
  by_cases hw:HT.dj vs.length 0 lo=0/\HT.dj vs.length vs.length hi=vs.length
  . refine .inr (.inr ⟨a,vs,rfl,.of d1,hw,P3 _ ρ3 H3 (.refl _ _) z3 ?_⟩);have:dZ xs lo hi=xs:=by
     unfold dZ;rw[d2.len,hw.1,hw.2,List.drop_zero,Nat.sub_zero,<- d2.len,List.take_length]
    rw[this,rel];exact⟨a,vs,rfl,d1,d2⟩
  . exact .inr (.inl ⟨a,vs,rfl,.of d1,hw,λp hp=>lZ z3 (d2.cut lo hi) P3 p hp⟩)
 | ref n =>
  simp only[Ck] at q
  split at q
  . rename_i xs en;cases q;obtain⟨a,vs,rfl,_,d1,d2⟩:=z3.sq en r3;exact .inl ⟨a,vs,rfl,d1,λp hp=>d8 z3 (d2.cut lo hi) P3 p hp⟩
  . exact nomatch q
 | _=>exact nomatch q⟩⟩
noncomputable def bN:List PV->PH->RV PV:=λxs h=>match xs with
 | [x]=>(match itemsOf h x with
  | some ys=> .ok (.int ys.length) h
  | none=>(match x with
   | .str z=>kr z.length (.ok (.int z.length) h)
   | .ref n=>(match h[n]? with
    | some (.dct kvs)=> .ok (.int kvs.length) h
    | _=> .no)
   | _=> .no))
 | _=> .no
theorem bG{ρ :List Addr}{H:Hp}{x:PV}{us:List V}(r:aw K ρ H [x] us): ∃ u,us=[u]/\rel K ρ H x u:=by
 obtain⟨v,t,rfl,r1,r2⟩:=aC.mp r;rw[aN] at r2;exact⟨v,by rw[r2],r1⟩
theorem j5{ρ :List Addr}{H:Hp}{x y:PV}{us:List V}(r:aw K ρ H [x,y] us): ∃ u w,us=[u,w]/\rel K ρ H x u/\rel K ρ H y w:=by
 obtain⟨v,t,rfl,r1,r2⟩:=aC.mp r;obtain⟨w,rfl,r3⟩:=bG r2;exact⟨v,w,rfl,r1,r3⟩
theorem M8:dh X pg k-> ∃ r,aZ X (.builtin "len") r/\yp X.K r bN:=λA=>⟨_,C4.or xB,fun ρ h H xs us Q v h' s r q P=>by
 unfold bN at q;split at q
 . rename_i x;obtain⟨u,rfl,r1⟩:=bG r;have r:=r1;split at q
   . rename_i ys e;cases q;obtain⟨a,vs,rfl,z,r2⟩:=s.items e r;exact .inl (.inl ⟨a,vs,rfl,z,by rw[<- r2.len];exact P _ ρ H (.refl _ _) s (by rw[rel])⟩)
   . split at q
     . obtain⟨hl,q⟩:=jo.mp q;cases q;rw[rel] at r;subst r;exact .inl (.inr ⟨_,rfl,hl,P _ ρ H (.refl _ _) s (by rw[rel])⟩)
     . split at q
       . rename_i e;cases q;rw[rel] at r;obtain⟨a,ea,rfl⟩:=r;obtain⟨kws,e1,e2⟩:=s.ob _ _ a e ea;exact .inr ⟨a,kws,rfl,e1,by rw[<- RK.len e2];exact P _ ρ H (.refl _ _) s (by rw[rel])⟩
       . exact nomatch q
     . exact nomatch q
 . exact nomatch q⟩
inductive Ty where
 | non | bool | int | str | tuple | list | dict
 deriving DecidableEq
noncomputable def Ty.n:Ty->String
 | .non=> "NoneType" | .bool=> "bool" | .int=> "int" | .str=> "str" | .tuple=> "tuple" | .list=> "list" | .dict=> "dict"
noncomputable def Ty.of:String->Option Ty
 | "bool" =>some .bool | "int" =>some .int | "str" =>some .str | "tuple" =>some .tuple | "list" =>some .list | "dict" =>some .dict
 | _=>none
noncomputable def Ty.NH(a b:Ty):Bool:=decide (a=b)||(decide (a= .bool)&&decide (b= .int))
noncomputable def tyP(h:PH):PV->Option Ty
 | .non=>some .non
 | .bl _=>some .bool
 | .int _=>some .int
 | .str _=>some .str
 | .tup _=>some .tuple
 | .ref n=>(match h[n]? with
  | some (.lst _)=>some .list
  | some (.dct _)=>some .dict
  | _=>none)
 | _=>none
theorem AK{ρ :List Addr}{h:PH}{H:Hp}{x:PV}{t:Ty}{v:V}(s:dc K ρ h H)(e:tyP h x=some t)(r:rel K ρ H x v):i6 K H v (.type t.n):=by
 cases x with
 | non=>cases e;rw[rel] at r;subst r;exact .non
 | bl b=>cases e;rw[rel] at r;subst r;exact .bl b
 | int i=>cases e;rw[rel] at r;subst r;exact .int i
 | str z=>cases e;rw[rel] at r;subst r;exact .str z
 | tup xs=>cases e;rw[rel] at r;obtain⟨a,vs,rfl,e1,_⟩:=r;exact .tup e1
 | ref n =>
  rw[rel] at r
  obtain⟨a,ea,rfl⟩:=r
  simp only[tyP] at e
  split at e
  . rename_i en;cases e;obtain⟨vs,e1,_⟩:=s.ob n _ a en ea;exact .lst e1
  . rename_i en;cases e;obtain⟨vs,e1,_⟩:=s.ob n _ a en ea;exact .dK e1
  . exact nomatch e
 | _=>exact nomatch e
theorem zS(a b:Ty)(hb:b≠ .non):PySem.W.kitOne K (.type a.n) (.type b.n)=some (a.NH b):=by
 cases b<;>first | (exact absurd rfl hb) | (cases a<;>rfl)
theorem Ty.Mx{T:String}{t:Ty}(h:Ty.of T=some t):T=t.n/\t≠ .non:=by
 unfold Ty.of at h;split at h<;>first | (cases h;exact⟨rfl,by decide⟩) | exact nomatch h
noncomputable def vI:List PV->Option (List Ty)
 | []=>some []
 | .ty T::r=>(match Ty.of T,vI r with
  | some t,some ts=>some (t::ts)
  | _,_=>none)
 | _=>none
noncomputable def cu:List PV->PH->RV PV:=λxs h=>match xs with
 | [x,.ty T]=>(match tyP h x,Ty.of T with
  | some a,some b=> .ok (.bl (a.NH b)) h
  | _,_=> .no)
 | [x,.tup ts]=>(match tyP h x,vI ts with
  | some a,some bs=> .ok (.bl (bs.any a.NH)) h
  | _,_=> .no)
 | _=> .no
theorem wQ{ρ :List Addr}{H:Hp}: ∀{ts:List PV}{bs:List Ty}{vs:List V},vI ts=some bs->aw K ρ H ts vs->vs=(bs.map Ty.n).map V.ty/\ ∀ b∈bs,b≠ .non
 | [],bs,vs,e,r=>by cases e;rw[aN] at r;subst r;exact⟨rfl,λ_ m=>by cases m⟩
 | .ty T::t,bs,vs,e,r=>by
  simp only[vI] at e;split at e
  . rename_i b bs' e1 e2;cases e;obtain⟨v,w,rfl,r1,r2⟩:=aC.mp r;obtain⟨h1,h2⟩:=wQ e2 r2;rw[rel] at r1;obtain⟨n1,n2⟩:=Ty.Mx e1;refine⟨by rw[r1,h1,n1];rfl,λc m=>?_⟩;rcases List.mem_cons.mp m with rfl | m
    . exact n2
    . exact h2 c m
  . exact nomatch e
 | .non::_,_,_,e,_=>nomatch e
 | .bl _::_,_,_,e,_=>nomatch e
 | .int _::_,_,_,e,_=>nomatch e
 | .str _::_,_,_,e,_=>nomatch e
 | .tup _::_,_,_,e,_=>nomatch e
 | .ktup _::_,_,_,e,_=>nomatch e
 | .ref _::_,_,_,e,_=>nomatch e
theorem wt(a:Ty): ∀(bs:List Ty),(∀ b∈bs,b≠ .non)->PySem.W.kitAny K (.type a.n) ((bs.map Ty.n).map Value.type)=some (bs.any a.NH)
 | [],_=>rfl
 | b::r,h=>by
  have h1:=zS (K:=K) a b (h b List.mem_cons_self);have h2:=wt a r λc m=>h c (List.mem_cons_of_mem _ m);simp only[List.map_cons,List.any_cons,PySem.W.kitAny,h1,h2];cases a.NH b<;>rfl
theorem MC:dh X pg k-> ∃ r,aZ X (.builtin "isinstance") r/\yp X.K r cu:=λA=>⟨_,Bq,fun ρ h H xs us Q v h' s r q P=>by
 unfold cu at q;split at q
 . rename_i x T;split at q
   . rename_i a b e1 e2;cases q;obtain⟨u,w,rfl,r1,r2⟩:=j5 r;rw[rel] at r2;subst r2;obtain⟨n1,n2⟩:=Ty.Mx e2;exact .inl ⟨u,T,_,_,rfl,AK s e1 r1,by rw[n1];exact zS a b n2,P _ ρ H (.refl _ _) s (by rw[rel])⟩
   . exact nomatch q
 . rename_i x ts;split at q
   . rename_i a bs e1 e2;cases q;obtain⟨u,w,rfl,r1,r2⟩:=j5 r;rw[rel] at r2;obtain⟨p,vs,rfl,e3,e4⟩:=r2;obtain⟨h1,h2⟩:=wQ e2 e4;subst h1;exact .inr ⟨u,p,_,_,_,rfl,e3,AK s e1 r1,wt a bs h2,P _ ρ H (.refl _ _) s (by rw[rel])⟩
   . exact nomatch q
 . exact nomatch q⟩
noncomputable def Al:List PV->PH->RV PV:=λxs h=>match xs with
 | [.int i]=> .ok (.int i) h
 | [.bl b]=> .ok (.int (if b then 1 else 0)) h
 | _=> .no
theorem K6:dh X pg k-> ∃ r,aZ X (.type "int") r/\yp X.K r Al:=λA=>⟨_,Cd,fun ρ h H xs us Q v h' s r q P=>by
 unfold Al at q;split at q
 . cases q;obtain⟨u,rfl,r1⟩:=bG r;have r:=r1;rw[rel] at r;subst r;exact .inl ⟨_,rfl,P _ ρ H (.refl _ _) s (by rw[rel])⟩
 . cases q;obtain⟨u,rfl,r1⟩:=bG r;have r:=r1;rw[rel] at r;subst r;exact .inr ⟨_,rfl,P _ ρ H (.refl _ _) s (by rw[rel])⟩
 . exact nomatch q⟩
noncomputable def bC:List PV->PH->RV PV:=λxs h=>match xs with
 | [.tup ys]=> .ok (.tup ys) h
 | [.ref n]=>(match de h n with
  | some ys=> .ok (.tup ys) h
  | none=> .no)
 | _=> .no
theorem Dj:dh X pg k-> ∃ r,aZ X (.type "tuple") r/\yp X.K r bC:=λA=>⟨_,CB,fun ρ h H xs us Q v h' s r q P=>by
 unfold bC at q;split at q
 . rename_i ys;cases q;obtain⟨u,rfl,r1⟩:=bG r;have r:=r1;have r':=r;rw[rel] at r;obtain⟨a,vs,rfl,e1,e2⟩:=r;exact⟨a,vs,rfl,.inr ⟨.of e1,P _ ρ H (.refl _ _) s r'⟩⟩
 . split at q
   . rename_i ys e;cases q;obtain⟨u,rfl,r1⟩:=bG r;have r:=r1;obtain⟨a,vs,rfl,_,e1,e2⟩:=s.sq e r;exact⟨a,vs,rfl,.inl ⟨e1,λp hp=>lZ s e2 P p hp⟩⟩
   . exact nomatch q
 . exact nomatch q⟩
noncomputable def sv:List PV->PH->RV PV:=λxs h=>match xs with
 | [x]=>(match itemsOf h x with
  | some ys=> .ok (.ref h.length) (h++[.lst ys])
  | none=> .no)
 | _=> .no
theorem J2:dh X pg k-> ∃ r,aZ X (.type "list") r/\yp X.K r sv:=λA=>⟨_,rf,fun ρ h H xs us Q v h' s r q P=>by
 unfold sv at q;split at q
 . split at q
   . rename_i ys e;cases q;obtain⟨u,rfl,r1⟩:=bG r;have r:=r1;obtain⟨a,vs,rfl,z,r2⟩:=s.items e r;exact⟨a,vs,rfl,z,λp hp=>d8 s r2 P p hp⟩
   . exact nomatch q
 . exact nomatch q⟩
noncomputable def AZ:List PV->Option (List Bool)
 | []=>some []
 | .bl b::r=>(AZ r).map (b:: ·)
 | _=>none
theorem wm: ∀{xs:List PV}{bs:List Bool},AZ xs=some bs->xs=bs.map PV.bl
 | [],bs,e=>by cases e;rfl
 | .bl b::r,bs,e=>by
  rw[AZ] at e;cases q:AZ r with
  | none=>rw[q] at e;exact nomatch e
  | some cs=>rw[q] at e;cases e;rw[wm q];rfl
 | .non::_,_,e=>nomatch e
 | .int _::_,_,e=>nomatch e
 | .str _::_,_,e=>nomatch e
 | .tup _::_,_,e=>nomatch e
 | .ktup _::_,_,e=>nomatch e
 | .ref _::_,_,e=>nomatch e
 | .ty _::_,_,e=>nomatch e
theorem wo{ρ :List Addr}{H:Hp}: ∀{bs:List Bool}{vs:List V},aw K ρ H (bs.map PV.bl) vs->vs=bs.map V.bl
 | [],vs,r=>aN.mp r
 | b::t,vs,r=>by
  obtain⟨v,w,rfl,r1,r2⟩:=aC.mp r;rw[rel] at r1;rw[r1,wo r2];rfl
noncomputable def zh{α :Type}(g:List PV->Option (List α))(f:List α ->PV):List PV->PH->RV PV:=λxs h=>match xs with
 | [.ref n]=>(match de h n with
  | some ys=>(match g ys with
   | some bs=> .ok (f bs) h
   | none=> .no)
  | none=> .no)
 | _=> .no
theorem Ag{α :Type}{g:List PV->Option (List α)}{f:List α ->PV}{xs:List PV}{h h':PH}{v:PV}(q:zh g f xs h= .ok v h'): ∃ n ys bs,xs=[.ref n]/\de h n=some ys/\g ys=some bs/\v=f bs/\h'=h:=by
 unfold zh at q;split at q
 . split at q
   . split at q
     . cases q;exact⟨_,_,_,rfl,by assumption,by assumption,rfl,rfl⟩
     . exact nomatch q
   . exact nomatch q
 . exact nomatch q
noncomputable def Lc:=zh AZ λbs=> .bl (bs.all id)
theorem NX:dh X pg k-> ∃ r,aZ X (.builtin "all") r/\yp X.K r Lc:=λA=>⟨_,D3 A.calm,fun ρ h H xs us Q v h' s r q P=>by
 obtain⟨n,ys,bs,rfl,e1,e2,rfl,rfl⟩:=Ag q;obtain⟨u,rfl,r1⟩:=bG r;have r:=r1;obtain⟨a,vs,rfl,_,z,r2⟩:=s.sq e1 r;rw[wm e2] at r2;exact⟨a,bs,rfl,by rw[wo r2] at z;exact z,P _ ρ H (.refl _ _) s (by rw[rel])⟩⟩
noncomputable def eG:PV->PH->Bool:=λx h=>match x with
 | .ref n=>(match h[n]? with
  | some (.lst _)=>true
  | _=>false)
 | _=>false
theorem tT{ρ :List Addr}{h:PH}{H:Hp}{x:PV}{v:V}(s:dc K ρ h H)(r:rel K ρ H x v)(e:eG x h=true):Mj K "list" v H:=by
 cases x with
 | ref n =>
  simp only[eG] at e
  split at e
  . rename_i en;obtain⟨a,vs,rfl,_,e1,_⟩:=s.lst en r;exact .inl ⟨rfl,vs,.of e1⟩
  . exact nomatch e
 | _=>exact nomatch e
noncomputable def cV:PV->List PV->PH->RV PV:=λx vs h=>match x,vs with
 | .ref n,[v]=>(match h[n]? with
  | some (.lst xs)=>if xs.length < sizeLine then .ok .non (h.set n (.lst (xs++[v]))) else .no
  | _=> .no)
 | _,_=> .no
theorem Bj:dh X pg k-> ∃ r,FK X "list.append" r/\Og X.K "list" r cV eG:=λA=>⟨_,xj,fun ρ h H x x' s r e=>tT s r e,fun ρ h H x x' xs us Q v h' s rx rs q P=>by
 unfold cV at q;split at q
 . rename_i n y;split at q
   . rename_i ys en;split at q
     . rename_i hl;cases q;obtain⟨a,vs,rfl,ea,e1,e2⟩:=s.lst en rx;obtain⟨u,rfl,r⟩:=bG rs;have g:Gr ρ H ρ (upd H a (.lst (vs++[u]))):=Gr.write (.inl ⟨_,e1⟩);exact⟨a,vs,u,rfl,rfl,e1,by rw[<- e2.len];exact hl,P _ ρ _ g (s.write en ea rfl rfl ⟨_,bc,aw.gr g _ _ (e2.app (aw.one r))⟩) (by rw[rel])⟩
     . exact nomatch q
   . exact nomatch q
 . exact nomatch q⟩
end
section
variable{K:PySem.W.Frag}{X:Cx}{pg:Tb}{k:Nat}{tg l:Expr}
theorem qN{pins:List (Addr × Obj)}{σ :L2.St}{H:Hp}{s:Shared}(I:Inv X pins σ H s): ∀ b∈[s.heap.objs.size],lW X pins H b:=λb hb=>by
 have e:b=s.heap.objs.size:=by simpa using hb
 subst e;exact I.Ey (Nat.le_refl _) (I.bx.fresh (Nat.le_refl _))
theorem Bx{pins:List (Addr × Obj)}{σ :L2.St}{H:Hp}{s:Shared}{R:It->Hp->Prop}{a:Addr}{xs:List V}(I:Inv X pins σ H s)(hq:gi X.K H a xs)(q:R (Pe X.K a) H):wpAny (model X.prog X.w) X.A (pyIter (.ref a)) (MQ X pins σ tg R) X.xe s:=by
 obtain⟨av,rv,p,hz⟩:=I.list hq;exact wpAny_pyIter_list p.isList ⟨s.heap.objs.size,[s.heap.objs.size],_,_,H,rfl,I.kept (t':=s.toks) (λb o e=>Heap.get?_push_of_some _ e),xH a _,⟨_,Heap.get?_push_size _ rfl,rfl,rfl⟩,qN I,q⟩
theorem Bk{pins:List (Addr × Obj)}{σ :L2.St}{H:Hp}{s:Shared}{R:It->Hp->Prop}{a:Addr}{xs:List V}(I:Inv X pins σ H s)(hq:fe X.K H a xs)(q:R (N2 X.K a) H):wpAny (model X.prog X.w) X.A (pyIter (.ref a)) (MQ X pins σ tg R) X.xe s:=by
 obtain⟨av,rv,p,hz⟩:=I.tuple hq;exact wpAny_pyIter_tuple (show s.heap.IsTuple a av.toArray from p) ⟨s.heap.objs.size,[s.heap.objs.size],_,_,H,rfl,I.kept (t':=s.toks) (λb o e=>Heap.get?_push_of_some _ e),uW a _,⟨_,Heap.get?_push_size _ rfl,rfl,rfl⟩,qN I,q⟩
theorem Ay{pins:List (Addr × Obj)}{σ :L2.St}{H:Hp}{s:Shared}{R:It->Hp->Prop}{z:Str}{t:Tok}(I:Inv X pins σ H s)(q:R (Ob z) H):wpAny (model X.prog X.w) X.A (pyIter (.str z t)) (MQ X pins σ tg R) X.xe s:=by
 cases ha:z.cps.all (· < 128)
 . exact wpAny_pyIter_wide ha ⟨s.heap.objs.size,[s.heap.objs.size],_,_,H,rfl,I.kept (t':=s.toks) (λb o e=>Heap.get?_push_of_some _ e),tM z t _ (by decide) (λA' hA=>Walks.strWide hA _ z t) (λ_ _ _ _ _ st h=>wpAny_pyIter_striter_wide st h),⟨_,Heap.get?_push_size _ rfl,rfl,rfl⟩,qN I,q⟩
 . exact wpAny_pyIter_ascii ha ⟨s.heap.objs.size,[s.heap.objs.size],_,_,H,rfl,I.kept (t':=s.toks) (λb o e=>Heap.get?_push_of_some _ e),tM z t _ (by decide) (λA' hA=>Walks.strAscii hA _ z t) (λ_ _ _ _ _ st h=>wpAny_pyIter_striter_ascii st h),⟨_,Heap.get?_push_size _ rfl,rfl,rfl⟩,qN I,q⟩
noncomputable def NW(K:PySem.W.Frag)(tl:TE):TI:=fun σ H R=>tl σ H λx H1=>(∃ a xs,x= .ref a/\gi K H1 a xs/\R (Pe K a) H1)\/(∃ a xs,x= .ref a/\fe K H1 a xs/\R (N2 K a) H1)\/ ∃ z,x= .str z/\R (Ob z) H1
theorem Kz{tl:TE}(hl:PE X l tl):PI X tg l (NW X.K tl):=by
 intro pins s σ H R I h;refine cQ (hl pins s σ H _ I h) λv s1 ⟨x,H1,I1,r1,q1⟩=>?_;rcases q1 with⟨a,xs,rfl,hq,q⟩ | ⟨a,xs,rfl,hq,q⟩ | ⟨z,rfl,q⟩
 . cases r1;exact Bx I1 hq q
 . cases r1;exact Bk I1 hq q
 . obtain⟨t,rfl⟩:=r1;exact Ay I1 q
noncomputable def xo(x:PV)(h:PH):RV hW:=match x with
 | .tup xs=> .ok ⟨none,xs⟩ h
 | .ktup xs=> .ok ⟨none,xs⟩ h
 | .str z=> .ok ⟨none,z.cps.toList.map λc=> .str ⟨#[c]⟩⟩ h
 | .ref n=>(match de h n with
  | some xs=> .ok ⟨some n,xs⟩ h
  | none=> .no)
 | _=> .no
noncomputable def mK(a:ME):MI:=λc e h=>(a c e h).bind xo
end
section
variable{X:Cx}{pg:Tb}{k:Nat}{tg l:Expr}{ma:ME}{ta:TE}
theorem Gd{c:CF}{K:PySem.W.Frag}(s1:SE c K ta ma):SI c K (NW K ta) (mK ma):=fun ρ h H e σ R it h' s r q P=>by
 obtain⟨x,h1,e1,q⟩:=bind_eq.mp q;refine s1 ρ h H e σ _ x h1 s r e1 λx' ρ1 H1 g1 z1 r1=>?_;have tupc: ∀(xs:List PV),x.seq?=some xs->it=⟨none,xs⟩->h'=h1->(∃ a xs,x'= .ref a/\fe K H1 a xs/\R (N2 K a) H1):=λxs ex ei eh=>by
  subst ei eh;obtain⟨a,vs,rfl,zz,rr⟩:=rel.seq ex r1;refine⟨a,vs,rfl,zz,P ρ1 H1 _ g1 z1 λi ρ2 h2 H2 g s _=>?_⟩;have z2:=g.BW zz;have r2:=aw.gr g _ _ rr;refine⟨λy e=>?_,λe=>⟨vs,z2,by rw[e,<- rr.len];exact Nat.le_refl _⟩⟩;obtain⟨v,d1,d2⟩:=r2.get e;refine⟨⟨vs,v,z2,d1⟩,?_⟩;rintro w H' ⟨rfl,hw⟩;have:=hw vs z2;rw[d1] at this;cases this;exact⟨ρ2,.refl _ _,s,d2⟩
 cases x with
 | tup xs=>cases q;exact .inr (.inl (tupc xs rfl rfl rfl))
 | ktup xs=>cases q;exact .inr (.inl (tupc xs rfl rfl rfl))
 | str z =>
  cases q
  rw[rel] at r1
  refine .inr (.inr ⟨z,r1,P ρ1 H1 _ g1 z1 λi ρ2 h2 H2 g s _=>⟨λy e=>?_,λe=>by show i=z.cps.size;simpa using e⟩⟩)
  rw[List.getElem?_map] at e
  cases q:z.cps.toList[i]? with
  | none=>rw[q] at e;exact nomatch e
  | some c =>
   rw[q] at e
   cases e
   have hc:z.cps[i]?=some c:=by simpa using q
   refine⟨(Array.getElem?_eq_some_iff.mp hc).1,?_⟩
   rintro v H' ⟨rfl,c',e1,rfl⟩
   rw[hc] at e1
   cases e1
   exact⟨ρ2,.refl _ _,s,by rw[rel]⟩
 | ref n =>
  simp only[xo] at q
  split at q
  . rename_i xs en;cases q;obtain⟨a,vs,rfl,ea,zz,rr⟩:=z1.sq en r1;refine .inl ⟨a,vs,rfl,zz,P ρ1 H1 _ g1 z1 λi ρ2 h2 H2 g s hf=>?_⟩;have ea2:=g.pre _ _ ea;have hl:de h2 n=some xs:=by
     have:h2[n]?=some (.lst xs)\/h2[n]?=some (.kD xs):=by simpa [hW.fH] using hf
     unfold de;rcases this with q | q<;>rw[q]
    obtain⟨a',vs2,e3,e4,z2,r2⟩:=s.sq hl (show rel K ρ2 H2 (.ref n) (.ref a) by rw[rel];exact⟨a,ea2,rfl⟩);cases e3;refine⟨λy e=>?_,λe=>⟨vs2,z2,by rw[e,<- r2.len];exact Nat.le_refl _⟩⟩;obtain⟨v,d1,d2⟩:=r2.get e;refine⟨⟨vs2,v,z2,d1⟩,?_⟩;rintro w H' ⟨rfl,hw⟩;have:=hw vs2 z2;rw[d1] at this;cases this;exact⟨ρ2,.refl _ _,s,d2⟩
  . exact nomatch q
 | _=>exact nomatch q
theorem Hl(ha:JE X pg k l ma):JI X pg k tg l (mK ma):=⟨λA=>let ⟨_,q1,s1⟩:=ha.h A;⟨_,⟨Kz q1.h⟩,Gd s1⟩⟩
noncomputable def bq(lo:Int)(n:Nat):List PV:=(List.range n).map λ(i:Nat)=>PV.int (lo+(i:Int))
noncomputable def dy(r:MA):MI:=λc e h=>(r c e h).bind λvs h1=>match vs with
 | [.int j]=>if -(2 ^ 62)<=j/\j < 2 ^ 62 then .ok ⟨none,bq 0 j.toNat⟩ h1 else .no
 | _=> .no
theorem wY{K:PySem.W.Frag}{ρ :List Addr}{H:Hp}(lo:Int)(n:Nat):PB K ρ H (Oc lo n) ⟨none,bq lo n⟩:=λi ρ1 h1 H1 g s _=>by
 refine⟨λy e=>?_,λe=>by show n<=i;rw[e];simp[bq]⟩;unfold bq at e;rw[List.getElem?_map] at e;rcases Nat.lt_or_ge i n with z | z
 . rw[List.getElem?_range z] at e;cases e;exact⟨z,λv H' ⟨e1,e2⟩=>by subst e1;subst e2;exact⟨ρ1,.refl _ _,s,by rw[rel]⟩⟩
 . rw[List.getElem?_eq_none (by simpa using z)] at e;exact nomatch e
variable{a b:Expr}{p pos:Pos}{mr:MA}
theorem x8(hg:Gl X "range")(ha:JA X pg k [a] mr)(hs:starEach [a] X.env=[(false,eval a X.env)]:=by rfl):JI X pg k tg (.Call (.Name "range" p) [a] [] pos) (dy mr):=⟨λA =>
 let ⟨_,q1,s1⟩:=ha.h A;⟨_,⟨xp hg (A.blt _ (by decide)) q1.h hs⟩,fun ρ h H e σ R it h' s r q P=>by
 obtain⟨vs,h1,e1,q⟩:=bind_eq.mp q
 refine s1 ρ h H e σ _ vs h1 s r e1 λus ρ1 H1 g1 z1 r1=>?_
 split at q
 . rename_i j;split at q
   . rename_i hj;cases q;obtain⟨u,rfl,r2⟩:=bG r1;rw[rel] at r2;subst r2;exact⟨j,rfl,hj.1,hj.2,P ρ1 H1 _ g1 z1 (wY 0 _)⟩
   . exact nomatch q
 . exact nomatch q⟩⟩
abbrev MP:=CF->ax->PH->RV (List (Key × PV))
noncomputable def xg:MP:=λ_ _ h=> .ok [] h
noncomputable def fD(a b:ME)(r:MP):MP:=λc e h=>(a c e h).bind λx h1=>match gJ x with
 | some key=>(b c e h1).bind λv h2=>(r c e h2).bind λkvs h3=> .ok ((key,v)::kvs) h3
 | none=> .no
noncomputable def bH(kvs more:List (Key × PV)):List (Key × PV):=more.foldl (λacc kv=>eQ acc kv.1 kv.2) kvs
noncomputable def pO(r:MP):ME:=λc e h=>(r c e (h++[.dct []])).bind λkvs h1=>if h1[h.length]?=some (.dct [])/\kvs.length<=15 then .ok (.ref h.length) (h1.set h.length (.dct (bH [] kvs))) else .no
structure JP(X:Cx)(pg:Tb)(k:Nat)(pos:Pos)(ks:List (Option Expr))(vs:List Expr)(m:MP):Prop where
 h:dh X pg k-> ∃ t,QP X pos ks vs t/\ ∀ ρ h H e σ Q kvs h',dc X.K ρ h H->dS X.K ρ H e σ ->m (run pg k) e h= .ok kvs h'->(∀ kws ρ' H',Gr ρ H ρ' H'->dc X.K ρ' h' H'->RK X.K ρ' H' kvs kws->Q (kws.map λkv=>(kV kv.1,kv.2)) H')->kG t σ H Q
theorem KN:JP X pg k pos [] [] xg:=⟨λA=>⟨_,CY,fun ρ h H e σ Q kvs h' s r q P=>by cases q;exact P [] ρ H (.refl _ _) s .nil⟩⟩
theorem Cw{kk v:Expr}{ks:List (Option Expr)}{vs:List Expr}{mk mv:ME}{mp:MP}(hk:JE X pg k kk mk)(hv:JE X pg k v mv)(hr:JP X pg k pos ks vs mp):JP X pg k pos (some kk::ks) (v::vs) (fD mk mv mp):=⟨λA =>
 let ⟨_,q1,s1⟩:=hk.h A;let ⟨_,q2,s2⟩:=hv.h A;let ⟨_,q3,s3⟩:=hr.h A;⟨_,zc q1 q2 q3,fun ρ h H e σ Q kvs h' s r q P=>by
 obtain⟨x,h1,e1,q⟩:=bind_eq.mp q
 refine s1 ρ h H e σ _ x h1 s r e1 λx' ρ1 H1 g1 z1 r1=>?_
 split at q
 . rename_i key ek;obtain⟨v,h2,e2,q⟩:=bind_eq.mp q;obtain⟨kvs',h3,e3,q⟩:=bind_eq.mp q;cases q;refine s2 ρ1 h1 H1 e σ _ v h2 z1 (r.gr g1) e2 λv' ρ2 H2 g2 z2 r2=>?_;refine s3 ρ2 h2 H2 e σ _ kvs' _ z2 (r.gr (g1.trans g2)) e3 λkws ρ3 H3 g3 z3 r3=>?_;have:=P ((key,v')::kws) ρ3 H3 ((g1.trans g2).trans g3) z3 (.cons ⟨rfl,rel.gr g3 _ _ r2⟩ r3);rw[fG ek r1];exact this
 . exact nomatch q⟩⟩
theorem RK.merge{K:PySem.W.Frag}{ρ :List Addr}{H:Hp}: ∀{more:List (Key × PV)}{mw:List (Key × V)}{kvs:List (Key × PV)}{kws:List (Key × V)},RK K ρ H more mw->RK K ρ H kvs kws->RK K ρ H (bH kvs more) (cK kws mw)
 | _,_,_,_,.nil,r=>r
 | _,_,_,_,.cons (a:=p) (b:=q) a t,r=>by
  show RK K ρ H (bH (eQ _ p.1 p.2) _) (cK (putK _ q.1 q.2) _);refine RK.merge t ?_;rw[<- a.1];exact RK.put r a.2
theorem CQ{ks:List (Option Expr)}{vs:List Expr}{mp:MP}(h:JP X pg k pos ks vs mp)(hall:ks.all (·.isSome)=true)(hl:ks.length=vs.length)(h0:ks≠[])(h15:ks.length<=15):JE X pg k (.Dict ks vs pos) (pO mp):=⟨λA =>
 let ⟨_,q1,s1⟩:=h.h A;⟨_,D4 q1 hall hl h0 h15,fun ρ h H e σ Q v h' s r q P p hp=>by
 obtain⟨kvs,h1,e1,q⟩:=bind_eq.mp q
 split at q
 . rename_i hc;cases q;have g0:Gr ρ H (ρ ++[p]) (upd H p (.dK [])):=Gr.new hp [p];have s0:dc X.K (ρ ++[p]) (h++[.dct []]) (upd H p (.dK [])):=s.new hp ⟨[],bc,.nil⟩;refine s1 (ρ ++[p]) _ _ e σ _ kvs h1 s0 (r.gr g0) e1 λkws ρ1 H1 g1 z1 r1=>?_;have ep:(ρ ++[p])[h.length]?=some p:=by rw[<- s.len,List.getElem?_append_right (Nat.le_refl _)];simp
   have ep1:=g1.pre _ _ ep;obtain⟨kw0,e2,e3⟩:=z1.ob h.length _ p hc.1 ep1;cases e3;refine⟨e2,kws,rfl,by rw[<- RK.len r1];exact hc.2,?_⟩;have gw:Gr ρ1 H1 ρ1 (upd H1 p (.dK (cK [] kws))):=Gr.write (.inr ⟨_,e2⟩);refine P _ ρ1 _ ((g0.trans g1).trans gw) (z1.write hc.1 ep1 rfl rfl ⟨_,bc,RK.merge (Paired.eZ gw r1) .nil⟩) ?_;rw[rel];exact⟨p,ep1,rfl⟩
 . exact nomatch q⟩⟩
noncomputable def jn:ME:=λ_ _ h=> .ok (.ref h.length) (h++[.dct []])
theorem Ah:JE X pg k (.Dict [] [] pos) jn:=⟨λA=>⟨_,Bn,fun ρ h H e σ Q v h' s r q P p hp=>by
 cases q;refine P _ (ρ ++[p]) _ (Gr.new hp [p]) (s.new hp ⟨[],bc,.nil⟩) ?_;rw[rel];exact⟨p,by rw[<- s.len,List.getElem?_append_right (Nat.le_refl _)];simp,rfl⟩⟩⟩
noncomputable def AA(kvs:List (Key × PV))(a:ME):ME:=λc e h=>(a c e h).bind λx h1=>match gJ x with
 | some key=>(match bV kvs key with
  | some v=> .ok v h1
  | none=> .no)
 | none=> .no
variable{x:Str}{kvs:List (Key × PV)}{i:Expr}{mi:ME}{pos':Pos}
theorem EW(hd:pg.yv x=some kvs)(hg:Gl X x)(hi:JE X pg k i mi)(hs:Ee i)(hdb:(x == ("__debug__" :Str))=false:=by decide):JE X pg k (.Subscript (.Name x pos') i pos) (AA kvs mi):=⟨λA =>
 let ⟨a,kws,e1,e2,e3⟩:=A.yv x kvs hd;let ⟨_,q1,s1⟩:=hi.h A;⟨_,Du e2 (Fc hg e1 hdb) q1 hs,fun ρ h H e σ Q v h' s r q P=>by
 obtain⟨y,h1,d1,q⟩:=bind_eq.mp q
 refine s1 ρ h H e σ _ y h1 s r d1 λy' ρ1 H1 g1 z1 r1=>?_
 split at q
 . rename_i key ek;split at q
   . rename_i w ew;cases q;obtain⟨u,f1,f2⟩:=RK.some (e3 ρ1 H1) ew;exact⟨key,u,fG ek r1,f1,P _ ρ1 H1 g1 z1 f2⟩
   . exact nomatch q
 . exact nomatch q⟩⟩
noncomputable def wK(d a b:ME):ME:=λc e h=>(d c e h).bind λx h1=>if eg h1 x=true then(a c e h1).bind (λy h2=>(b c e h2).bind λz h3=>match x,gJ y with
 | .ref n,some key=>(match h3[n]? with
  | some (.dct kvs)=> .ok ((bV kvs key).getD z) h3
  | _=> .no)
 | _,_=> .no) else .no
theorem Dx{o e f:Expr}{md me mf:ME}{apos cpos:Pos}(ho:JE X pg k o md)(he:JE X pg k e me)(hf:JE X pg k f mf)(m:M2 X o "get" apos e f cpos):JE X pg k (.Call (.Attribute o "get" apos) [e,f] [] cpos) (wK md me mf):=⟨λA =>
 let ⟨_,q1,s1⟩:=ho.h A;let ⟨_,q2,s2⟩:=he.h A;let ⟨_,q3,s3⟩:=hf.h A;⟨_,zP A.hu q1 q2 q3 m,fun ρ h H e σ Q v h' s r q P=>by
 obtain⟨x,h1,e1,q⟩:=bind_eq.mp q
 refine s1 ρ h H e σ _ x h1 s r e1 λx' ρ1 H1 g1 z1 r1=>?_
 split at q
 . rename_i hd;obtain⟨y,h2,e2,q⟩:=bind_eq.mp q;obtain⟨z,h3,e3,q⟩:=bind_eq.mp q;cases x with
   | ref n =>
    rw[rel] at r1
    obtain⟨a,ea,rfl⟩:=r1
    refine⟨a,rfl,?_,?_⟩
    . simp only[eg] at hd;split at hd
      . rename_i kvs0 en;obtain⟨kws,d1,_⟩:=z1.ob n _ a en ea;exact .inl ⟨kws,.inl d1⟩
      . exact nomatch hd
    refine s2 ρ1 h1 H1 e σ _ y h2 z1 (r.gr g1) e2 λy' ρ2 H2 g2 z2 r2=>?_
    refine s3 ρ2 h2 H2 e σ _ z h3 z2 (r.gr (g1.trans g2)) e3 λz' ρ3 H3 g3 z3 r3=>?_
    cases ek:gJ y with
    | none=>simp only[ek] at q;exact nomatch q
    | some key =>
     simp only[ek] at q
     split at q
     . rename_i kvs en;cases q;obtain⟨kws,d1,d2⟩:=z3.ob n _ a en (g3.pre _ _ (g2.pre _ _ ea));have:=fG ek r2;subst this;refine⟨_,i5.k (k:=key) d1,P _ ρ3 H3 ((g1.trans g2).trans g3) z3 ?_⟩;have:=RK.val key d2;cases p1:bV kvs key<;>cases p2:gz kws key<;>rw[p1,p2] at this<;>first | exact r3 | exact this | exact False.elim this
     . exact nomatch q
   | _=>exact nomatch hd
 . exact nomatch q⟩⟩
end
section
variable{K:PySem.W.Frag}{X:Cx}{pg:Tb}{k:Nat}
noncomputable def pairP?:PV->Option (Key × PV)
 | .tup [a,v]=>(gJ a).map λk=>(k,v)
 | _=>none
noncomputable def ir:List PV->Option (List (Key × PV))
 | []=>some []
 | x::r=>(match pairP? x,ir r with
  | some p,some ps=>some (p::ps)
  | _,_=>none)
section
variable{prog:Program}{w:World}{A:Around}{E:Value->Shared->Prop}{s:Shared}
theorem nH{p:Addr}{kvs:List (Key × Value)}{R:Value->Shared->Prop}(hS:(p == sysModules)=false)(hp:s.heap.DictOf (aK prog w) p kvs)(hz:kvs.length<=sizeLine)
  (q: ∀ g:Heap,g.DictOf (aK prog w) s.heap.objs.size (merged [] kvs)->(∀ b o,s.heap.get? b=some o->g.get? b=some o)->R (.ref s.heap.objs.size) { s with heap:=g }) :
  wpAny (model prog w) A (call (.type "dict") [.ref p]) R E s:=by
 let g0:=s.heap.push { cls:= .type "dict",data:= .dict #[] }
 have up: ∀ b o,s.heap.get? b=some o->g0.get? b=some o:=λb o e=>Heap.get?_push_of_some _ e;have dn:g0.DictOf (aK prog w) s.heap.objs.size []:=Heap.DictOf.new s.heap;have dp:g0.DictOf (aK prog w) p kvs:=hp.at λo e=>up p o e;have ne:s.heap.objs.size≠p:=λe=>by
  obtain⟨o,_,_,ho,_⟩:=hp;exact absurd (Heap.lt_size ho) (by rw[e];exact Nat.lt_irrefl _)
 refine callType_codes (Q₁ :=λz u=>z= .ref s.heap.objs.size/\u={ s with heap:=g0 }) F.kt_called_dict (F.kt_typeCall_dict_1 _) F.entry_dict_init (kt_code_dict_new _ ⟨rfl,rfl⟩) ?_;rintro obj s1 ⟨rfl,rfl⟩;refine⟨dn.typeIs,F.args_dict_init_2 _ _,?_⟩
 with_unfolding_all refine wpAny_bind (m:=Builtin.Dict.selfAndRest _ _) (wpAny_bind (wpAny_notOrdered_dict dn.typeIs (wpAny_pure ?_)))
 show wpAny _ _ (Builtin.Dict.updateFrom "dict.__init__" s.heap.objs.size (.ref p) [] .none) _ _ _;unfold Builtin.Dict.updateFrom Builtin.Dict.merge Builtin.Dict.readDirectly;refine wpAny_bind (wpAny_typeOf dp.typeIs ?_);rw[if_neg (by decide)];refine wpAny_bind (wpAny_bind (wpAny_bind (wpAny_isInstance dp.typeIs isSubtype_dict_dict ?_)));simp only[if_false,Bool.not_true,Bool.false_eq_true];refine wpAny_bind (wpAny_specialOf dp.typeIs F.slot_dict_iter.lookup (wpAny_pure ?_));simp only[if_true,beq_self_eq_true];refine wpAny_bind (wpAny_pure (wpAny_mergeDict (hsz:=by simpa using hz) ne hS dn dp λg dg _ sb=>?_));show wpAny _ _ (Builtin.Dict.addKeywords s.heap.objs.size [] >>= _) _ _ { s with heap:=g };exact wpAny_bind (wpAny_pure (wpAny_pure ⟨rfl,q g dg λb o e=>(sb.2 b (Nat.ne_of_lt (Heap.lt_size e))).trans (up b o e)⟩))
end
noncomputable def HR:List V->Hp->VK->Prop:=λxs H Q=> ∃ p kvs,xs=[.ref p]/\H p=some (.dK kvs)/\kvs.length<=sizeLine/\ ∀ d,H d=none->Q (.ref d) (upd H d (.dK (cK [] kvs)))
theorem vx:aZ X (.type "dict") HR:=by
 intro pins s σ H xs us Q I r h;obtain⟨p,kvs,rfl,hp,hz,q⟩:=h;obtain⟨u,rfl,ru⟩:=vals1 r;cases(show u=Value.ref p from ru);obtain⟨z1,n1,vs,r1,d1⟩:=nG I.bx hp;refine nH n1 d1 (by rw[<- r1.length];exact z1) λg dd keep=>?_;have hle:(cK [] kvs).length<=sizeLine:=by have:=dt kvs [];simp at this;omega
 obtain⟨hn,I'⟩:=I.kI (a:=s.heap.objs.size) (o:= .dK (cK [] kvs)) (t':=s.toks) keep (Heap.get?_none_of_le (Nat.le_refl _)) (oB hle (beq_eq_false_iff_ne.mpr (Ne.symm (Nat.ne_of_lt I.big))) (KV.sX r1) dd);exact⟨.ref _,_,I',rfl,q _ hn⟩
noncomputable def eR:List PV->PH->RV PV:=λxs h=>match xs with
 | [.tup ys]=>(match ir ys with
  | some kvs=>if ys.length < sizeLine then .ok (.ref h.length) (h++[.dct (bH [] kvs)]) else .no
  | none=> .no)
 | [.ref n]=>(match h[n]? with
  | some (.dct kvs)=>if kvs.length<=sizeLine then .ok (.ref h.length) (h++[.dct (bH [] kvs)]) else .no
  | _=> .no)
 | _=> .no
theorem CH{ρ :List Addr}{H:Hp}{x:PV}{p:Key × PV}{v:V}(e:pairP? x=some p)(r:rel K ρ H x v): ∃ q:Key × V,pD H v q/\p.1=q.1/\rel K ρ H p.2 q.2:=by
 cases x with
 | tup xs =>
  match xs,e with
  | [a,w],e =>
   simp only[pairP?] at e
   cases q:gJ a with
   | none=>rw[q] at e;exact nomatch e
   | some key =>
    rw[q] at e
    cases e
    rw[rel] at r
    obtain⟨b,vs,rfl,e1,e2⟩:=r
    obtain⟨u,u',rfl,r1,r2⟩:=j5 e2
    have:=fG q r1
    subst this
    exact⟨(key,u'),⟨b,rfl,e1⟩,rfl,r2⟩
 | _=>exact nomatch e
theorem sR{ρ :List Addr}{H:Hp}: ∀{xs:List PV}{kvs:List (Key × PV)}{vs:List V},ir xs=some kvs->aw K ρ H xs vs-> ∃ kws,Paired (pD H) vs kws/\RK K ρ H kvs kws
 | [],kvs,vs,e,r=>by cases e;rw[aN] at r;subst r;exact⟨[],.nil,.nil⟩
 | x::t,kvs,vs,e,r=>by
  simp only[ir] at e;split at e
  . rename_i p ps e1 e2;cases e;obtain⟨v,w,rfl,r1,r2⟩:=aC.mp r;obtain⟨q,a,b⟩:=CH e1 r1;obtain⟨qs,c,d⟩:=sR e2 r2;exact⟨q::qs,.cons a c,.cons b d⟩
  . exact nomatch e
theorem vX{ρ :List Addr}{h:PH}{H:Hp}{kvs:List (Key × PV)}{kws:List (Key × V)}{Q:VK}(s:dc K ρ h H)(r:RK K ρ H kvs kws)(P:dF K ρ H (.ref h.length) (h++[.dct kvs]) Q)(p:Addr)(hp:H p=none):Q (.ref p) (upd H p (.dK kws)):=by
 refine P _ (ρ ++[p]) _ (Gr.new hp [p]) (s.new hp ⟨kws,bc,Paired.eZ (Gr.new hp [p]) r⟩) ?_;rw[rel];exact⟨p,by rw[<- s.len,List.getElem?_append_right (Nat.le_refl _)];simp,rfl⟩
theorem Ha:dh X pg k-> ∃ r,aZ X (.type "dict") r/\yp X.K r eR:=λA=>⟨_,(yP A.calm).or vx,fun ρ h H xs us Q v h' s r q P=>by
 unfold eR at q;split at q
 . rename_i ys;split at q
   . rename_i kvs e;split at q
     . rename_i hl;cases q;obtain⟨u,rfl,r1⟩:=bG r;rw[rel] at r1;obtain⟨a,vs,rfl,e1,e2⟩:=r1;obtain⟨kws,c,d⟩:=sR e e2;exact .inl ⟨a,vs,kws,rfl,e1,c,by rw[<- e2.len];exact hl,λp hp=>vX s (RK.merge d .nil) P p hp⟩
     . exact nomatch q
   . exact nomatch q
 . rename_i n;split at q
   . rename_i kvs en;split at q
     . rename_i hl;cases q;obtain⟨u,rfl,r1⟩:=bG r;rw[rel] at r1;obtain⟨a,ea,rfl⟩:=r1;obtain⟨kws,e1,e2⟩:=s.ob n _ a en ea;exact .inr ⟨a,kws,rfl,e1,by rw[<- RK.len e2];exact hl,λp hp=>vX s (RK.merge e2 .nil) P p hp⟩
     . exact nomatch q
   . exact nomatch q
 . exact nomatch q⟩
theorem iT{α :Type}{le: α -> α ->Prop}: ∀{l1 l2:List α},(∀ a∈l1,∀ b∈l1,le a b->le b a->a=b)->l1.Perm l2->l1.Pairwise le->l2.Pairwise le->l1=l2
 | [],l2,_,p,_,_=>List.Perm.nil_eq p
 | a::r,[],_,p,_,_=>absurd p.length_eq (by simp)
 | a::r,b::r',anti,p,h1,h2=>by
  rw[List.pairwise_cons] at h1 h2;have hb:b∈a::r:=p.mem_iff.mpr List.mem_cons_self;have e:a=b:=by
   rcases List.mem_cons.mp (p.mem_iff.mp (List.mem_cons_self:a∈a::r)) with e | m
   . exact e
   . rcases List.mem_cons.mp hb with e | m'
     . exact e.symm
     . exact anti a List.mem_cons_self b hb (h1.1 b m') (h2.1 a m)
  subst e;rw[iT (λx hx y hy=>anti x (List.mem_cons_of_mem _ hx) y (List.mem_cons_of_mem _ hy)) (List.Perm.cons_inv p) h1.2 h2.2]
noncomputable def lU(a b:Str):Bool:= !decide (hI b a)
noncomputable def aP(ss:List Str):List Str:=ss.mergeSort lU
theorem gu(a b c:Str)(h1:lU a b=true)(h2:lU b c=true):lU a c=true:=by
 unfold lU at h1 h2 ⊢;simp only[Bool.not_eq_true',decide_eq_false_iff_not] at h1 h2 ⊢;intro h;by_cases e:b=a
 . subst e;exact h2 h
 . rcases kE e with z | z
   . exact h1 z
   . exact h2 (iX h z)
theorem iM(a b:Str):(lU a b||lU b a)=true:=by
 unfold lU;by_cases h:hI b a
 . simp [h,iP h]
 . simp [h]
theorem tR {a b : Str} (h1 : lU a b = true) (h2 : lU b a = true) : a = b := by
  unfold lU at h1 h2;simp only [Bool.not_eq_true', decide_eq_false_iff_not] at h1 h2
  exact Decidable.byContradiction fun e => by rcases kE e with z | z; · exact h2 z
                                              . exact h1 z
theorem xC: ∀ {r:List Str} {p:Str},risingS p r=true->(p::r).Pairwise λa b=>lU a b=true:=by
 intro r
 induction r with
 | nil=>intro p _;exact List.pairwise_singleton _ _
 | cons x r ih =>
  intro p h
  simp only[risingS,Bool.and_eq_true] at h
  have h1:lU p x=true:=by
   have:=h.1;rw[ltCps_eq] at this;exact this
  have h2:=ih h.2
  refine List.pairwise_cons.mpr ⟨λy hy=>?_,h2⟩
  rcases List.mem_cons.mp hy with rfl | m
  . exact h1
  . exact gu _ _ _ h1 ((List.pairwise_cons.mp h2).1 y m)
theorem x6{ss:List Str}(h:sortedS ss=true):ss.Pairwise λa b=>lU a b=true:=by
 cases ss with
 | nil=>exact .nil
 | cons p r=>exact xC h
theorem oA{ss ss':List Str}(p:ss'.Perm ss)(h:sortedS ss'=true):ss'=aP ss :=
 iT (le:=λa b=>lU a b=true) (λ_ _ _ _ h1 h2=>tR h1 h2) (p.trans (List.mergeSort_perm ss lU).symm) (x6 h) (List.pairwise_mergeSort gu (λa b=>by simpa using iM a b) ss)
noncomputable def fR:List PV->Option (List Str)
 | []=>some []
 | .str x::r=>(fR r).map (x:: ·)
 | _=>none
theorem iy: ∀{xs:List PV}{ss:List Str},fR xs=some ss->xs=ss.map PV.str
 | [],bs,e=>by cases e;rfl
 | .str b::r,bs,e=>by
  rw[fR] at e;cases q:fR r with
  | none=>rw[q] at e;exact nomatch e
  | some cs=>rw[q] at e;cases e;rw[iy q];rfl
 | .non::_,_,e=>nomatch e
 | .bl _::_,_,e=>nomatch e
 | .int _::_,_,e=>nomatch e
 | .tup _::_,_,e=>nomatch e
 | .ktup _::_,_,e=>nomatch e
 | .ref _::_,_,e=>nomatch e
 | .ty _::_,_,e=>nomatch e
theorem dW: ∀(ss:List Str),fR (ss.map PV.str)=some ss
 | []=>rfl
 | b::r=>by rw[List.map_cons,fR,dW r];rfl
theorem c8{ρ :List Addr}{H:Hp}: ∀{ss:List Str}{vs:List V},aw K ρ H (ss.map PV.str) vs↔vs=ss.map V.str
 | [],vs=>aN
 | b::t,vs=>by
  rw[List.map_cons,aC];constructor
  . rintro ⟨v,w,rfl,r1,r2⟩;rw[rel] at r1;rw[r1,c8.mp r2];rfl
  . rintro rfl;exact⟨.str b,t.map V.str,rfl,by rw[rel],c8.mpr rfl⟩
noncomputable def ua:List PV->Option (List (Str × Int))
 | []=>some []
 | .tup [.str x,.int i]::r=>(ua r).map ((x,i):: ·)
 | _=>none
noncomputable def eO(q:Str × Int):PV:= .tup [.str q.1,.int q.2]
theorem rR: ∀(ps:List (Str × Int)),ua (ps.map eO)=some ps
 | []=>rfl
 | b::r=>by rw[List.map_cons,eO,ua,rR r];rfl
theorem En: ∀{xs:List PV}{ps:List (Str × Int)},ua xs=some ps->xs=ps.map eO:=by
 intro xs
 induction xs with
 | nil=>intro ps e;cases e;rfl
 | cons x r ih =>
  intro ps e
  unfold ua at e
  split at e
  . rename_i h;cases h
  . rename_i y i r' h;cases h;cases q:ua r with
    | none=>rw[q] at e;exact nomatch e
    | some cs=>rw[q] at e;cases e;rw[ih q];rfl
  . exact nomatch e
theorem jZ{ρ :List Addr}{H:Hp}: ∀{ps:List (Str × Int)}{vs:List V},aw K ρ H (ps.map eO) vs↔Paired (jf H) vs ps
 | [],vs=>⟨λh=>by rw[List.map_nil,aN] at h;subst h;exact .nil,λh=>by cases h;exact aN.mpr rfl⟩
 | b::t,vs=>by
  rw[List.map_cons,aC];constructor
  . rintro ⟨v,w,rfl,r1,r2⟩;rw[eO,rel] at r1;obtain⟨a,us,rfl,e1,e2⟩:=r1;obtain⟨u,u',rfl,d1,d2⟩:=j5 e2;rw[rel] at d1;rw[rel] at d2;subst d1 d2;exact .cons ⟨a,rfl,e1⟩ (jZ.mp r2)
  . intro h;cases h with
    | cons h1 h2 =>
     obtain⟨a,rfl,e1⟩:=h1
     refine⟨.ref a,_,rfl,?_,jZ.mpr h2⟩
     rw[eO,rel]
     exact⟨a,_,rfl,e1,aC.mpr ⟨_,_,rfl,by rw[rel],aw.one (by rw[rel])⟩⟩
theorem zZ: ∀{ps:List (Str × Int)},(ps.map (·.1)).Nodup-> ∀{a b:Str × Int},a∈ps->b∈ps->a.1=b.1->a=b
 | [],_,a,b,ha,_,_=>by cases ha
 | p::r,nd,a,b,ha,hb,e=>by
  rw[List.map_cons] at nd;rw[List.nodup_cons] at nd;rcases List.mem_cons.mp ha with ha | ha<;>rcases List.mem_cons.mp hb with hb | hb
  . rw[ha,hb]
  . exact absurd (by rw[<- ha,e];exact List.mem_map.mpr ⟨b,hb,rfl⟩) nd.1
  . exact absurd (by rw[<- hb,<- e];exact List.mem_map.mpr ⟨a,ha,rfl⟩) nd.1
  . exact zZ nd.2 ha hb e
noncomputable def j7(ps:List (Str × Int)):List (Str × Int):=ps.mergeSort λa b=>lU a.1 b.1
theorem yZ{ps ps':List (Str × Int)}(nd:(ps.map (·.1)).Nodup)(p:ps'.Perm ps)(h:(ps'.map (·.1)).Pairwise hI):ps'=j7 ps:=by
 have h2:ps'.Pairwise λa b=>lU a.1 b.1=true:=by
  rw[List.pairwise_map] at h;exact h.imp λ{a b} z=>by unfold lU;simp[iP z]
 refine iT (le:=λa b=>lU a.1 b.1=true) (λa ha b hb z1 z2=>?_) (p.trans (List.mergeSort_perm ps _).symm) h2 (List.pairwise_mergeSort (λa b c=>gu a.1 b.1 c.1) (λa b=>by simpa using iM a.1 b.1) ps);have e:=tR z1 z2;have ha':=p.mem_iff.mp ha;have hb':=p.mem_iff.mp hb;exact zZ nd ha' hb' e
noncomputable def eT:List PV->PH->RV PV:=λxs h=>match xs with
 | [x]=>(match itemsOf h x with
  | some ys=>(match x with
   | .ref _=>(match fR ys with
    | some ss=>if ss.length < 64 then .ok (.ref h.length) (h++[.lst ((aP ss).map PV.str)]) else .no
    | none=>(match ua ys with
     | some ps=>if ps.length < 64/\(ps.map (·.1)).Nodup then .ok (.ref h.length) (h++[.lst ((j7 ps).map eO)]) else .no
     | none=> .no))
   | _=> .no)
  | none=>(match x with
   | .ref n=>(match h[n]? with
    | some (.dct kvs)=>(match fR (kvs.map λkv=>match kv.1 with | .inl i=> .int i | .inr z=> .str z) with
     | some ss=>if ss.length < 64 then .ok (.ref h.length) (h++[.lst ((aP ss).map PV.str)]) else .no
     | none=> .no)
    | _=> .no)
   | _=> .no))
 | _=> .no
theorem RK.keys{ρ :List Addr}{H:Hp}: ∀{kvs:List (Key × PV)}{kws:List (Key × V)},RK K ρ H kvs kws->kws.map (·.1)=kvs.map (·.1)
 | _,_,.nil=>rfl
 | _,_,.cons a t=>by rw[List.map_cons,List.map_cons,RK.keys t,a.1]
theorem keys_str: ∀{kvs:List (Key × PV)}{ss:List Str},(kvs.map λkv=>(match kv.1 with | .inl i=>PV.int i | .inr z=>PV.str z))=ss.map PV.str->kvs.map (·.1)=ss.map Sum.inr
 | [],ss,e=>by cases ss with | nil=>rfl | cons=>exact nomatch e
 | (.inl i,v)::r,ss,e=>by cases ss with | nil=>exact nomatch e | cons=>simp at e
 | (.inr z,v)::r,ss,e=>by
  cases ss with
  | nil=>exact nomatch e
  | cons y t =>
   rw[List.map_cons,List.map_cons,List.cons.injEq] at e
   rw[List.map_cons,List.map_cons,keys_str e.2]
   cases e.1;rfl
theorem sk(A:dh X pg k):yp X.K (λxs H Q=>An X.K xs H Q\/(BH xs H Q\/uE X.K xs H Q)) eT:=fun ρ h H xs us Q v h' s r q P=>by
 unfold eT at q;split at q
 . rename_i x;obtain⟨u,rfl,r1⟩:=bG r;split at q
   . rename_i ys e;split at q
     . rename_i n;obtain⟨a,vs,rfl,_,z,r2⟩:=s.sq e r1;split at q
       . rename_i ss es;split at q
         . rename_i hl;cases q;rw[iy es,c8] at r2;subst r2;refine .inl ⟨a,ss,rfl,z,hl,λl ss' hp pm so=>?_⟩;rw[oA pm so];exact d8 s (c8.mpr rfl) P l hp
         . exact nomatch q
       . split at q
         . rename_i ps eps;split at q
           . rename_i hl;cases q;rw[En eps,jZ] at r2;refine .inr (.inr ⟨a,vs,ps,rfl,z,r2,hl.1,hl.2,λl ys' ps' hp pm so pr=>?_⟩);have:=yZ hl.2 pm so;subst this;exact d8 s (jZ.mpr pr) P l hp
           . exact nomatch q
         . exact nomatch q
     . exact nomatch q
   . split at q
     . rename_i n _;split at q
       . rename_i kvs en;split at q
         . rename_i ss es;split at q
           . rename_i hl;cases q;rw[rel] at r1;obtain⟨a,ea,rfl⟩:=r1;obtain⟨kws,e1,e2⟩:=s.ob n _ a en ea;refine .inr (.inl ⟨a,kws,ss,rfl,e1,by rw[RK.keys e2];exact keys_str (iy es),hl,λl ss' hp pm so=>?_⟩);rw[oA pm so];exact d8 s (c8.mpr rfl) P l hp
           . exact nomatch q
         . exact nomatch q
       . exact nomatch q
     . exact nomatch q
 . exact nomatch q
theorem iV.of{P:Program}{w:World}{K:PySem.W.Frag}{mg:Str->Option Value}{base:Heap}{pg:Tb}{f:String}{d:Df}(b:MS)(st:Stmt)(N:List Str)(e:d.body=b)(a:At K mg (Str.ofString f) st)(S:ay N d.ps (aj st))(hl:N.length=d.ps.length+d.nl)
  (hb: ∀(kV doc pm:Value)(an:Option Addr)(cdv ct:Value)(us:List Value),us.length=d.ps.length->bindArgs (PySem.W.fnOf (Str.ofString f) (Str.ofString f) (c6 st) (bz st) (aj st) .none kV doc pm an cdv ct) ⟨us,[]⟩=pure (d.ps.zip us))
  (h: ∀(fa:Addr)(cdv:Value)(A:Around)(outer:List Env)(s:Shared)(H:Hp)(E:XK)(k:Nat),wZ (jv rM P w K mg base N (Str.ofString f) (aj st) fa cdv A outer s H E).oR pg k (bz st) b):iV P w K mg base pg f d :=
 ⟨st,N,a,S,hl,hb,by rw[e];exact h⟩
end
section
variable{X:Cx}{pins:List (Addr × Obj)}{σ :L2.St}{H:Hp}{s:Shared}{h':Heap}
theorem BA{turned:List Addr}{t':Nat}(I:Inv X pins σ H s)(kp: ∀ b o,b ∉ turned->s.heap.get? b=some o->h'.get? b=some o)(fp: ∀ b∈turned,lW X pins H b):Inv X pins σ H { s with heap:=h',toks:=t' }:=by
 have away: ∀ b u,H b=some u->b ∉ turned:=λb u e m=>by
  have:=(fp b m).1;rw[e] at this;exact nomatch this
 refine I.step (g':=s.gens) (d':=s.drawn) (ch:=turned) (λb m=>?_) (λb o _ _ n e _=>kp b o n e) (λb o _ _ n e _=>⟨o.slots,kp b o n e⟩) (λ_ _ _ _ e=>e) (λb o n e=>⟨o,kp b o n e⟩) (λ_ _ e=>e) (λ_ _ _ e=>e) (λb ps e=>⟨#[],by rw[e];simp⟩) (λm hm=>?_) (λb u e=>?_) I.bare
 . obtain⟨_,a2,_,a4,a5,a6⟩:=fp b m;exact⟨a4,a2,a5,a6⟩
 . obtain⟨o,es,ep,ho,r⟩:=hm;exact⟨o,es,ep,kp _ o (λm=>(fp _ m).2.1 rfl) ho,r⟩
 . refine(I.bx b u e).qC (λc v hc q=>kp c v ?_ q) (λ_ q=>q) λ_ _ q=>q;rcases hc with z | z
   . rw[z];exact away b u e
   . exact away c _ z
theorem pH{turned:List Addr}{t':Nat}{p:Addr}{vs:List V}(I:Inv X pins σ H s)(kp: ∀ b o,b ∉ turned->s.heap.get? b=some o->h'.get? b=some o)(fp: ∀ b∈turned,lW X pins H b)(hp:s.heap.objs.size<=p)
  (new:bg X.prog X.w (upd H p (.tup vs)) h' p (.tup vs)):Inv X pins σ (upd H p (.tup vs)) { s with heap:=h',toks:=t' }:=by
 have hn:H p=none:=I.bx.fresh hp;have away: ∀ b u,H b=some u->b ∉ turned:=λb u e m=>by
  have:=(fp b m).1;rw[e] at this;exact nomatch this
 have old: ∀ b o,s.heap.get? b=some o->b≠p:=λb o e z=>absurd (Nat.lt_of_lt_of_le (Heap.lt_size e) (z ▸ hp)) (Nat.lt_irrefl _);refine I.step (g':=s.gens) (d':=s.drawn) (ch:=turned) (λb m=>?_) (λb o _ _ n e _=>kp b o n e) (λb o _ _ n e _=>⟨o.slots,kp b o n e⟩) (λb o _ e n=>by rw[aB (old b o e)];exact n) (λb o n e=>⟨o,kp b o n e⟩)
  (λb xs e=>by rw[aB (aD e hn)];exact e) (λb o u e=>by rw[aB (aD e hn)];exact e) (λb ps e=>⟨#[],by rw[aB (aD e hn),e];simp⟩) (λm hm=>?_) (λb u e=>?_) I.bare
 . obtain⟨_,a2,_,a4,a5,a6⟩:=fp b m;exact⟨a4,a2,a5,a6⟩
 . obtain⟨o,es,ep,ho,r⟩:=hm;exact⟨o,es,ep,kp _ o (λm=>(fp _ m).2.1 rfl) ho,r⟩
 . by_cases hb:b=p
   . subst hb;rw[bc] at e;cases e;exact new
   . rw[aB hb] at e;refine(I.bx b u e).qC (λc v hc q=>kp c v ?_ q) (λc q=>by rw[aB (aD q hn)];exact q) λc xs q=>by rw[aB (aD q hn)];exact q
     rcases hc with z | z
     . rw[z];exact away b u e
     . exact away c _ z
end
noncomputable def P4 (K : PySem.W.Frag) (a1 a2 : Addr) : It :=
  ⟨λi H => ∃ xs ys x y, fe K H a1 xs /\ fe K H a2 ys /\ xs[i]? = some x /\ ys[i]? = some y,
   λi H v H' => ∃ p x y, H p = none /\ v = .ref p /\ H' = upd H p (.tup [x, y]) /\ (∀ xs, fe K H a1 xs -> xs[i]? = some x) /\ ∀ ys, fe K H a2 ys -> ys[i]? = some y,
   λi H => ∃ xs ys, fe K H a1 xs /\ fe K H a2 ys /\ (xs.length <= i ∨ ys.length <= i)⟩
theorem xq {h h':Heap} {z TI TO i1 i2 l1 l2:Addr} {k:Nat} (Z:sF h z TI TO i1 i2 l1 l2 k) (kp: ∀ b∈[z,TI,TO,i1,i2],∀ o,h.get? b=some o->h'.get? b=some o):sF h' z TI TO i1 i2 l1 l2 k:=by
 obtain ⟨a,b,⟨u,v,c⟩,⟨o1,d1,d2⟩,⟨o2,e1,e2⟩⟩:=Z;exact ⟨kp _ (by simp) _ a,kp _ (by simp) _ b,⟨u,v,kp _ (by simp) _ c⟩,⟨o1,kp _ (by simp) _ d1,d2⟩,⟨o2,kp _ (by simp) _ e1,e2⟩⟩
theorem yF{P:Program}{w:World}{K:PySem.W.Frag}{els:List Expr}{j:Nat}{pos:Pos}{z TI TO i1 i2 a1 a2:Addr}(D:ZipApart z TI TO i1 i2 a1 a2) :
  Turn P w K (.Tuple els j pos) (P4 K a1 a2) [z,TI,TO,i1,i2] z (λi h=>sF h z TI TO i1 i2 a1 a2 i) where
 mem:=by simp
 obj:=λi h Z b hb=>by
  obtain⟨e1,e2,⟨u,v,e3⟩,⟨o4,e4,_,d4⟩,⟨o5,e5,_,d5⟩⟩:=Z;simp only[List.not_mem_nil,or_false,List.mem_cons] at hb;rcases hb with rfl | rfl | rfl | rfl | rfl
  . exact⟨_,e1,λv q=>nomatch q⟩
  . exact⟨_,e2,λv q=>nomatch q⟩
  . exact⟨_,e3,λv q=>nomatch q⟩
  . exact⟨_,e4,λv q=>by rw[d4] at q;exact nomatch q⟩
  . exact⟨_,e5,λv q=>by rw[d5] at q;exact nomatch q⟩
 keep:=λi h h' Z kp=>xq Z kp
 item:=by
  intro X hP hw hK hc i pins s σ H E I hf Z hg;subst hP hw hK;obtain⟨xs,ys,x,y,s1,s2,ex,ey⟩:=hg;obtain⟨us,ru,pu,_⟩:=I.tuple s1;obtain⟨ws,rw',pw,_⟩:=I.tuple s2;obtain⟨ux,eu,rx⟩:=ru.get ex;obtain⟨uy,ew,ry⟩:=rw'.get ey;refine m8 D Z pu pw (by simpa using eu) (by simpa using ew) λh1 f1 f2 f3 f4 f5 f6 f7=>⟨_,rfl,?_⟩
  refine wpAny_letOwnedTupleGo_zip (s:={ s with heap:=h1 }) f1 λh2 g1 g2=>?_;have ex1:=g2.extBut;have zlt:z < s.heap.objs.size:=Heap.lt_size Z.xV;have pz:s.heap.objs.size≠z:=Nat.ne_of_gt zlt;have new:IsPair h2 s.heap.objs.size ux uy:=ex1 _ _ pz f6;have hn:H s.heap.objs.size=none:=I.bx.fresh (Nat.le_refl _);have I2:Inv X pins σ (upd H s.heap.objs.size (.tup [x,y])) { s with heap:=h2,toks:=s.toks }:=by
   refine pH (turned:=[z,TO,i1,i2]) I (λb o nb e=>?_) (λb hb=>hf b ?_) (Nat.le_refl _) ?_
   . simp only[List.mem_cons,List.not_mem_nil,or_false,not_or] at nb;exact ex1 _ _ nb.1 (f7 b o nb.1 nb.2.1 nb.2.2.1 nb.2.2.2 e)
   . simp only[List.mem_cons,List.not_mem_nil,or_false] at hb ⊢;rcases hb with rfl | rfl | rfl | rfl<;>simp
   . exact⟨by show 2<=sizeLine;decide,[ux,uy],.cons rx (.cons ry .nil),_,new,rfl,_,rfl,rfl⟩
  refine⟨.ref s.heap.objs.size,upd H s.heap.objs.size (.tup [x,y]),I2,rfl,⟨_,x,y,hn,rfl,rfl,λxs' q=>?_,λys' q=>?_⟩,?_,λb hb=>?_⟩
  . rw[I.iK q s1];exact ex
  . rw[I.iK q s2];exact ey
  . obtain⟨o4,e4,c4⟩:=f4;obtain⟨o5,e5,c5⟩:=f5;exact⟨g1,ex1 _ _ D.TIz f2,⟨_,_,ex1 _ _ D.TOz f3⟩,⟨o4,ex1 _ _ D.i1z e4,c4⟩,⟨o5,ex1 _ _ D.i2z e5,c5⟩⟩
  . have hb0:=(hf b hb).1;have: ∃ o,s.heap.get? b=some o:=by
     obtain⟨e1,e2,⟨u,v,e3⟩,⟨o4,e4,_⟩,⟨o5,e5,_⟩⟩:=Z;simp only[List.not_mem_nil,or_false,List.mem_cons] at hb;rcases hb with rfl | rfl | rfl | rfl | rfl
     . exact⟨_,e1⟩
     . exact⟨_,e2⟩
     . exact⟨_,e3⟩
     . exact⟨_,e4⟩
     . exact⟨_,e5⟩
    obtain⟨o,eo⟩:=this;rw[aB (Nat.ne_of_lt (Heap.lt_size eo))];exact hb0
 done:=by
  intro X hP hw hK hc i pins s σ H E I hf Z hg;subst hP hw hK;obtain⟨xs,ys,s1,s2,he⟩:=hg;obtain⟨us,ru,pu,_⟩:=I.tuple s1;obtain⟨ws,rw',pw,_⟩:=I.tuple s2;refine oX (I.ok.hd hc) D Z pu pw ?_ λh1 kp=>⟨rfl,BA (turned:=[z,TO,i1,i2]) (t':=s.toks) I (λb o nb e=>?_) λb hb=>hf b ?_⟩
  . have l1:=ru.length;have l2:=rw'.length;rcases he with he | he
    . exact .inl (by simp;omega)
    . exact .inr (by simp;omega)
  . simp only[List.mem_cons,List.not_mem_nil,or_false,not_or] at nb;exact kp b o nb.1 nb.2.1 nb.2.2.1 nb.2.2.2 e
  . simp only[List.mem_cons,List.not_mem_nil,or_false] at hb ⊢;rcases hb with rfl | rfl | rfl | rfl<;>simp
 self:=λA i s Q E Z h=>wpAny_pyIter_zip Z.xV h
abbrev tI(a:Addr):Obj:={ cls:= .type "tuple_iterator",data:= .fields #[.ref a,.int 0 0] }
abbrev N7(h:Heap)(a b:Addr):Heap :=
 Heap.push (Heap.push (Heap.push (Heap.push (Heap.push h (tI a)) (tI b)) { cls:= .type "tuple",data:= .seq #[.ref h.objs.size,.ref (h.objs.size+1)] }) { cls:= .type "tuple",data:= .seq #[.none,.none] })
  { cls:= .type "zip",data:= .fields #[.none,.bool false,.bool false,.ref (h.objs.size+2),.ref (h.objs.size+3)] }
theorem qZ(a b:Addr)(us ws:Array Value):Meets (Builtin.«zip.__new__» ⟨[.type "zip",.ref a,.ref b],[]⟩) (λ_ R u=>u.heap.IsTuple a us/\u.heap.IsTuple b ws/\R (.ok (.ret (.ref (u.heap.objs.size+4)))) { u with heap:=N7 u.heap a b }) :=
 .of_wp λprog w A R u hu=>by
  obtain⟨hp,gg,dd,tk,os⟩:=u;obtain⟨ha,hb,hr⟩:=hu;have sub:=sub_zip;have fa:Heap.IsTuple (Shared.heap ⟨hp,gg,dd,tk,os⟩) a us:=ha;have fb:Heap.IsTuple (Shared.heap ⟨hp.push (tI a),gg,dd,tk,os⟩) b ws:=let ⟨o,e,c⟩:=hb;⟨o,Heap.get?_push_of_some _ e,c⟩
  wp_walk using wpAny_pyIter_tuple fa,wpAny_pyIter_tuple fb
  refine⟨_,rfl,?_⟩;simp only[Heap.size_push];exact hr
section
variable{X:Cx}{pg:Tb}{k:Nat}{a b:Expr}{ma mb:ME}{p pos:Pos}{els:List Expr}{j:Nat}{tpos:Pos}
theorem G8(h:Heap)(l1 l2:Addr):sF (N7 h l1 l2) (h.objs.size+4) (h.objs.size+2) (h.objs.size+3) h.objs.size (h.objs.size+1) l1 l2 0/\(N7 h l1 l2).objs.size=h.objs.size+5:=by
 have n1:(Heap.push h (tI l1)).objs.size=h.objs.size+1:=Heap.size_push ..;have n2:(Heap.push (Heap.push h (tI l1)) (tI l2)).objs.size=h.objs.size+2:=by rw[Heap.size_push,n1]
 have n3:(Heap.push (Heap.push (Heap.push h (tI l1)) (tI l2)) { cls:= .type "tuple",data:= .seq #[.ref h.objs.size,.ref (h.objs.size+1)] }).objs.size=h.objs.size+3:=by rw[Heap.size_push,n2]
 have n4:(Heap.push (Heap.push (Heap.push (Heap.push h (tI l1)) (tI l2)) { cls:= .type "tuple",data:= .seq #[.ref h.objs.size,.ref (h.objs.size+1)] }) { cls:= .type "tuple",data:= .seq #[.none,.none] }).objs.size=h.objs.size+4:=by rw[Heap.size_push,n3]
 refine⟨⟨?_,?_,⟨.none,.none,?_⟩,⟨tI l1,?_,rfl,rfl⟩,⟨tI l2,?_,rfl,rfl⟩⟩,by rw[Heap.size_push,n4]⟩
 . rw[<- n4];exact Heap.get?_push_size _ rfl
 . refine Heap.get?_push_of_some _ (Heap.get?_push_of_some _ ?_);rw[<- n2];exact Heap.get?_push_size _ rfl
 . refine Heap.get?_push_of_some _ ?_;rw[<- n3];exact Heap.get?_push_size _ rfl
 . exact Heap.get?_push_of_some _ (Heap.get?_push_of_some _ (Heap.get?_push_of_some _ (Heap.get?_push_of_some _ (Heap.get?_push_size _ rfl))))
 . refine Heap.get?_push_of_some _ (Heap.get?_push_of_some _ (Heap.get?_push_of_some _ ?_));rw[<- n1];exact Heap.get?_push_size _ rfl
noncomputable def L4(K:PySem.W.Frag)(ta:TA):TI:=fun σ H R=>ta σ H λvs H1=> ∃ a1 a2 xs ys,vs=[.ref a1,.ref a2]/\fe K H1 a1 xs/\fe K H1 a2 ys/\R (P4 K a1 a2) H1
theorem JH{ta:TA}(hg:Gl X "zip")(hm:X.mg "zip" =none)(ha:PA X [a,b] ta)(hs:starEach [a,b] X.env=[(false,eval a X.env),(false,eval b X.env)])(hs2:starEach [b] X.env=[(false,eval b X.env)]) :
  PI X (.Tuple els j tpos) (.Call (.Name "zip" p) [a,b] [] pos) (L4 X.K ta):=by
 intro pins s σ H R I h;refine Call_ (kQ I hg hm boot_zip (PyProof.Rows.callWith_type1 (cQ (ha pos pins s σ H _ I h) λus s1 ⟨vs,H1,I1,r1,a1,a2,xs,ys,e,q1,q2,q⟩=>?_) (by rw[hs,hs2]) (by rw[hs2];rfl)));subst e;cases r1 with
 | cons ra rr =>
  cases rr with
  | cons rb rr =>
   cases rr
   cases ra
   cases rb
   obtain⟨u1,_,p1,_⟩:=I1.tuple q1
   obtain⟨u2,_,p2,_⟩:=I1.tuple q2
   refine callType_new F.called_zip (by decide) (F.typeCall_zip_2 _ _) (F.newCall_zip_2 _ _) (λobj=>F.args_object_init_3 obj _ _) F.entry_zip_new (qZ a1 a2 u1.toArray u2.toArray) ⟨p1,p2,?_⟩
   obtain⟨Z,zs⟩:=G8 s1.heap a1 a2
   have lt1:a1 < s1.heap.objs.size:=let ⟨_,e,_⟩:=p1;Heap.lt_size e
   have lt2:a2 < s1.heap.objs.size:=let ⟨_,e,_⟩:=p2;Heap.lt_size e
   refine⟨⟨_,Z.xV,rfl⟩,wpAny_pyIter_zip Z.xV ?_⟩
   have kp: ∀ c o,s1.heap.get? c=some o->(N7 s1.heap a1 a2).get? c=some o:=λc o e=>Heap.get?_push_of_some _ (Heap.get?_push_of_some _ (Heap.get?_push_of_some _ (Heap.get?_push_of_some _ (Heap.get?_push_of_some _ e))))
   refine⟨s1.heap.objs.size+4,[s1.heap.objs.size+4,s1.heap.objs.size+2,s1.heap.objs.size+3,s1.heap.objs.size,s1.heap.objs.size+1],_,_,H1,rfl,I1.kept (t':=s1.toks) kp,yF (zipApart_new lt1 lt2),Z,λc hc=>?_,q⟩
   have hle:s1.heap.objs.size<=c:=by
    simp only[List.mem_cons,List.not_mem_nil,or_false] at hc;rcases hc with rfl | rfl | rfl | rfl | rfl<;>omega
   exact I1.Ey hle (I1.bx.fresh hle)
noncomputable def Kx(a b:ME):MI:=λc e h=>(a c e h).bind λx h1=>(b c e h1).bind λy h2=>match x.seq?,y.seq? with
 | some xs,some ys=> .ok ⟨none,(xs.zip ys).map λp=> .tup [p.1,p.2]⟩ h2
 | _,_=> .no
theorem GJ(hg:Gl X "zip")(ha:JE X pg k a ma)(hb:JE X pg k b mb)(hs1:noStar a=true:=by rfl)(hs2:noStar b=true:=by rfl):JI X pg k (.Tuple els j tpos) (.Call (.Name "zip" p) [a,b] [] pos) (Kx ma mb):=⟨λA =>
 let ⟨_,q1,s1⟩:=ha.h A;let ⟨_,q2,s2⟩:=hb.h A
 ⟨_,⟨JH hg (A.blt _ (by decide +kernel)) (qk q1 (qk q2 vd hs2) hs1).h (by rw[cx hs1,cx hs2];rfl) (by rw[cx hs2];rfl)⟩,fun ρ h H e σ R it h' s r q P=>by
 obtain⟨x,h1,e1,q⟩:=bind_eq.mp q
 obtain⟨y,h2,e2,q⟩:=bind_eq.mp q
 refine s1 ρ h H e σ _ x h1 s r e1 λx' ρ1 H1 g1 z1 r1=>?_
 refine s2 ρ1 h1 H1 e σ _ y h2 z1 (r.gr g1) e2 λy' ρ2 H2 g2 z2 r2=>?_
 split at q
 . rename_i xs ys ex ey;cases q;obtain⟨a1,us,rfl,t1,d1⟩:=rel.seq ex (rel.gr g2 _ _ r1);obtain⟨a2,ws,rfl,t2,d2⟩:=rel.seq ey r2;refine⟨a1,a2,us,ws,rfl,t1,t2,P ρ2 H2 _ (g1.trans g2) z2 λi ρ3 h3 H3 g s3 _=>⟨λv ev=>?_,λei=>?_⟩⟩
   . rw[List.getElem?_map] at ev;cases ez:(xs.zip ys)[i]? with
     | none=>rw[ez] at ev;exact nomatch ev
     | some pr =>
      rw[ez] at ev
      cases ev
      obtain⟨zx,zy⟩:=List.getElem?_zip_eq_some.mp ez
      obtain⟨u,f1,f2⟩:=(aw.gr g _ _ d1).get zx
      obtain⟨w,f3,f4⟩:=(aw.gr g _ _ d2).get zy
      refine⟨⟨us,ws,u,w,g.BW t1,g.BW t2,f1,f3⟩,?_⟩
      rintro v' H' ⟨p,u',w',hp,rfl,rfl,k1,k2⟩
      have:=k1 us (g.BW t1)
      rw[f1] at this;cases this
      have:=k2 ws (g.BW t2)
      rw[f3] at this;cases this
      have gn:Gr ρ3 H3 ρ3 (upd H3 p (.tup [u,w])):=Gr.uS hp
      refine⟨ρ3,gn,s3.tup hp,?_⟩
      rw[rel]
      exact⟨p,_,rfl,bc,aC.mpr ⟨_,_,rfl,rel.gr gn _ _ f2,aw.one (rel.gr gn _ _ f4)⟩⟩
   . refine⟨us,ws,g.BW t1,g.BW t2,?_⟩;have:i=min xs.length ys.length:=by simpa using ei
     rw[<- d1.len,<- d2.len];omega
 . exact nomatch q⟩⟩
end
structure aL(P:Program)(w:World)(K:PySem.W.Frag)(mg:Str->Option Value)(pg:Tb)(f:String)(d:Df)(st:Stmt)(N:List Str):Prop where
 at_:At K mg (Str.ofString f) st
 sc:ay N d.ps (aj st)
 len:N.length=d.ps.length+d.nl
 bd: ∀(kV doc pm:Value)(an:Option Addr)(cdv ct:Value)(us:List Value),us.length=d.ps.length->bindArgs (PySem.W.fnOf (Str.ofString f) (Str.ofString f) (c6 st) (bz st) (aj st) .none kV doc pm an cdv ct) ⟨us,[]⟩=pure (d.ps.zip us)
 body: ∀(base:Heap)(fa:Addr)(cdv:Value)(A:Around)(outer:List Env)(s:Shared)(H:Hp)(E:XK)(k:Nat),wZ (jv rM P w K mg base N (Str.ofString f) (aj st) fa cdv A outer s H E).oR pg k (bz st) d.body
section
variable{P:Program}{w:World}{K:PySem.W.Frag}{mg:Str->Option Value}{pg:Tb}
theorem aL.of{f:String}{d:Df}(b:MS){st:Stmt}{N:List Str}(e:d.body=b)(a:At K mg (Str.ofString f) st)(S:ay N d.ps (aj st))(hl:N.length=d.ps.length+d.nl)
  (hb: ∀(kV doc pm:Value)(an:Option Addr)(cdv ct:Value)(us:List Value),us.length=d.ps.length->bindArgs (PySem.W.fnOf (Str.ofString f) (Str.ofString f) (c6 st) (bz st) (aj st) .none kV doc pm an cdv ct) ⟨us,[]⟩=pure (d.ps.zip us))
  (h: ∀(base:Heap)(fa:Addr)(cdv:Value)(A:Around)(outer:List Env)(s:Shared)(H:Hp)(E:XK)(k:Nat),wZ (jv rM P w K mg base N (Str.ofString f) (aj st) fa cdv A outer s H E).oR pg k (bz st) b):aL P w K mg pg f d st N :=
 ⟨a,S,hl,hb,by rw[e];exact h⟩
theorem aL.good{base:Heap}{f:String}{d:Df}{st:Stmt}{N:List Str}(g:aL P w K mg pg f d st N):iV P w K mg base pg f d:=⟨st,N,g.at_,g.sc,g.len,g.bd,g.body base⟩
theorem As{HA:List (String × Df)}(hf:pg.fns=λf=>(HA.find? λp=>p.1 == f).map (·.2))(h: ∀ p∈HA,∃ st N,aL P w K mg pg p.1 p.2 st N)(base:Heap): ∀ f d,pg.fns f=some d->iV P w K mg base pg f d:=λf d e=>by
 rw[hf] at e;dsimp only at e;cases q:HA.find? λp=>p.1 == f with
 | none=>rw[q] at e;exact nomatch e
 | some p =>
  rw[q] at e
  cases e
  obtain⟨st,N,g⟩:=h p (List.mem_of_find?_eq_some q)
  have:p.1=f:=by simpa using List.find?_some q
  rw [<- this]
  exact g.good
theorem Gv {k : Nat} {d : Df} {st : Stmt} {N : List Str} {fa : Addr} {x : Str} (T : Top P w K mg pg) (G : ∀ base f d, pg.fns f = some d -> iV P w K mg base pg f d) (hf : pg.fns "law" = some d) (hx : d.ps = [x]) (g : aL P w K mg pg "law" d st N) (hfa : mg "law" = some (.ref fa)) :
    ∃ fd : FuncData, (∀ (s : Shared) (v : Value), BindsTo s fd ⟨[v], []⟩ [(x, v)]) /\ ∀ base : Heap, K.In base -> base.Ns mainGlobals mg -> hZ P w K mg base rM (k + 1) fa fd [x] (uG K pg (k + 1) "law") := by
  obtain ⟨f, fd, F, hm⟩ := g.at_;have e := hfa.symm.trans hm;cases e;refine ⟨fd, λs v => .of_eq ?_, λbase _ _ => ?_⟩
  . have := yu.args F g.bd [v] (by rw [hx]; rfl);rw [this, hx]; rfl
  . have key : ∀ {args : List PV} {h h' : PH} {v : PV}, run pg (k + 1) "law" args h = .ok v h' -> args.length = d.ps.length ∧
        ((∃ w h2, d.body (run pg k) (args.map some ++ List.replicate d.nl none) h = .ok (.rt w) h2 /\ settle h w h2 = .ok v h') ∨
         (∃ e h2, d.body (run pg k) (args.map some ++ List.replicate d.nl none) h = .ok (.nx e) h2 /\ settle h .non h2 = .ok v h')) := λ{args h h' v} q => by
      rw [run, hf] at q;simp only at q;split at q
      . rename_i hn;refine ⟨hn, ?_⟩;split at q
        . rename_i w h2 e; exact .inl ⟨w, h2, e, q⟩
        . rename_i e' h2 e; exact .inr ⟨e', h2, e, q⟩
        . exact nomatch q
        . exact nomatch q
        . exact nomatch q
      . exact nomatch q
    have S := g.sc;rw [hx] at S;refine yu.Ou F S (λvs H Q E ⟨ρ, h, args, v, h', _, r, q, _⟩ => by rw [<- r.len, (key q).1, hx]) ?_;rintro fa cdv A outer s H vs Q E hr ⟨ρ, h, args, v, h', sm, r, q, post⟩;have amb : dh (jv rM P w K mg base N (Str.ofString "law") (aj st) fa cdv A outer s H E).oR pg k := ⟨hr, rfl, λ_ _ z => z, yH T (G base) k, T.blt, T.con, T.yv⟩
    obtain ⟨t, qt, st'⟩ := (g.body base fa cdv A outer s H E k).h amb;refine ⟨t, qt, ?_⟩;obtain ⟨hn, q⟩ := key q;have he : L2.start N vs = vs.map some ++ List.replicate d.nl none := by
      unfold L2.start;rw [g.len, <- r.len, hn, Nat.add_sub_cancel_left]
    rw [he];rcases q with ⟨w, h2, e, q⟩ | ⟨e', h2, e, q⟩
    . exact st' ρ h H _ _ _ _ h2 sm (gP r _) e (fQ sm q post)
    . exact st' ρ h H _ _ _ _ h2 sm (gP r _) e fun σ' ρ' H' g s' _ => fQ sm q post .non ρ' H' g s' (by rw [rel])
end
theorem IJ {K:PySem.W.Frag} {pg:Tb} {k:Nat} {E:XK} (hl: ∀ ns:List Int,ns.length<=63->Ok (run pg k "law" [.ref 0] [.kD (ns.map PV.int)]) λv _=>v= .bl true) (H:Hp) (a:Addr) (ns:List Int) (hn:ns.length<=63) (o:zX H) (q:gi K H a (ns.map V.int)) :
  uG K pg k "law" [.ref a] H (λv _=>v= .bl true) E:=by
 obtain⟨v,h',e,rfl⟩:=hl ns hn;refine⟨[a],_,[.ref 0],_,h',⟨rfl,λi j b oi oj ei ej mi mj _ _=>?_,λi ob b ei eb=>?_⟩,aw.one (by rw[rel];exact⟨a,rfl,rfl⟩),e,λv' ρ' H' g s r=>by rw[rel] at r;exact r⟩
 . cases i with
   | zero=>simp at ei;subst ei;exact nomatch mi
   | succ i=>simp at ei
 . cases i with
   | zero =>
    simp at ei eb
    subst ei eb
    exact⟨_,Km o q,aw.ints ns⟩
   | succ i=>simp at ei
section
variable{P:Program}{w:World}{K:PySem.W.Frag}{mg:Str->Option Value}{pg:Tb}
theorem Cs{conT:List (Str × PV)}(hc:pg.con=λx=>(conT.find? λp=>decide (p.1=x)).map (·.2))(h: ∀ p∈conT,∃ u v',mg p.1=some u/\RelV v' u/\ ∀ ρ H,rel K ρ H p.2 v'): ∀ x v,pg.con x=some v-> ∃ u v',mg x=some u/\RelV v' u/\ ∀ ρ H,rel K ρ H v v':=λx v e=>by
 rw[hc] at e;dsimp only at e;cases q:conT.find? λp=>decide (p.1=x) with
 | none=>rw[q] at e;exact nomatch e
 | some p =>
  rw[q] at e
  cases e
  have:p.1=x:=by simpa using List.find?_some q
  rw[<- this]
  exact h p (List.mem_of_find?_eq_some q)
theorem DR{dcT:List (Str × List (Key × PV))}(hc:pg.yv=λx=>(dcT.find? λp=>decide (p.1=x)).map (·.2))(h: ∀ p∈dcT,∃ a kws,mg p.1=some (.ref a)/\KD P w K a kws/\ ∀ ρ H,RK K ρ H p.2 kws) :
  ∀ x kvs,pg.yv x=some kvs-> ∃ a kws,mg x=some (.ref a)/\KD P w K a kws/\ ∀ ρ H,Paired (λ(p:Key × PV) (q:Key × V)=>p.1=q.1/\rel K ρ H p.2 q.2) kvs kws:=λx v e=>by
 rw[hc] at e;dsimp only at e;cases q:dcT.find? λp=>decide (p.1=x) with
 | none=>rw[q] at e;exact nomatch e
 | some p =>
  rw[q] at e
  cases e
  have:p.1=x:=by simpa using List.find?_some q
  rw[<- this]
  exact h p (List.mem_of_find?_eq_some q)
inductive CV:PV->Value->Prop where
 | int (i:Int) (t:Tok):CV (.int i) (.int i t)
 | str (x:Str) (t:Tok):CV (.str x) (.str x t)
theorem CV.v{x:PV}{u:Value}(c:CV x u): ∃ v,RelV v u/\ ∀ ρ H,rel K ρ H x v:=by
 cases c with
 | int i t=>exact⟨.int i,⟨t,rfl⟩,λ_ _=>by rw[rel]⟩
 | str z t=>exact⟨.str z,⟨t,rfl⟩,λ_ _=>by rw[rel]⟩
theorem Px.v: ∀{xs:List PV}{us:List Value},Paired CV xs us-> ∃ vs,Vals vs us/\ ∀ ρ H,aw K ρ H xs vs
 | _,_,.nil=>⟨[],.nil,λ_ _=>aN.mpr rfl⟩
 | _,_,.cons c t=>let ⟨v,a,b⟩:=CV.v c;let ⟨vs,d,e⟩:=Px.v t;⟨v::vs,.cons a d,fun ρ H=>aC.mpr ⟨v,vs,rfl,b ρ H,e ρ H⟩⟩
theorem sL{a:Addr}{d:Option Addr}{us:List Value}{n:Nat}{sl:Array (Option Value)}{xs:List PV}(hl:K.lookup a=some ⟨.type "tuple",d,.seq us.toArray n,sl⟩)(hz:us.length<=sizeLine)(h:Paired CV xs us)(ρ :List Addr)(H:Hp):rel K ρ H (.ktup xs) (.ref a):=by
 obtain⟨vs,r,q⟩:=Px.v (K:=K) h;rw[rel];exact⟨a,vs,rfl,⟨_,us.toArray,n,hl,rfl,rfl,by simpa using hz,by simpa using r⟩,q ρ H⟩
theorem Bi{x:Str}{v:PV}{u:Value}(hm:mg x=some u)(c:CV v u): ∃ u v',mg x=some u/\RelV v' u/\ ∀ ρ H,rel K ρ H v v':=let ⟨v',a,b⟩:=CV.v (K:=K) c;⟨u,v',hm,a,b⟩
theorem D5{x:Str}{a:Addr}{d:Option Addr}{us:List Value}{n:Nat}{sl:Array (Option Value)}{xs:List PV}(hm:mg x=some (.ref a))(hl:K.lookup a=some ⟨.type "tuple",d,.seq us.toArray n,sl⟩)(hz:us.length<=sizeLine)(h:Paired CV xs us) :
  ∃ u v',mg x=some u/\RelV v' u/\ ∀ ρ H,rel K ρ H (.ktup xs) v':=⟨_,.ref a,hm,rfl,sL hl hz h⟩
noncomputable def DV(K:PySem.W.Frag)(x:PV)(u:Value):Prop:= ∃ v,RelV v u/\ ∀ ρ H,rel K ρ H x v
theorem eL{a:Addr}{d:Option Addr}{us:List Value}{n:Nat}{sl:Array (Option Value)}{xs:List PV}(hl:K.lookup a=some ⟨.type "tuple",d,.seq us.toArray n,sl⟩)(hz:us.length<=sizeLine)(h:Paired CV xs us):DV K (.ktup xs) (.ref a):=⟨.ref a,rfl,sL hl hz h⟩
theorem BY{ls:List (Str × Tok × Value)}{kvs:List (Key × PV)}(h:Paired (λ(p:Key × PV) (l:Str × Tok × Value)=>p.1= .inr l.1/\DV K p.2 l.2.2) kvs ls): ∃ kws,KV kws (ls.map λp=>((Sum.inr p.1:Key),p.2.2))/\ ∀ ρ H,RK K ρ H kvs kws:=by
 induction h with
 | nil=>exact⟨[],.nil,λ_ _=> .nil⟩
 | @cons p l ps qs a t ih =>
  obtain⟨kws,r,q⟩:=ih
  obtain⟨e,v,r1,r2⟩:=a
  exact⟨(.inr l.1,v)::kws,.cons ⟨rfl,r1⟩ r,fun ρ H=> .cons ⟨e,r2 ρ H⟩ (q ρ H)⟩
theorem Hf{x:Str}{a:Addr}{ls:List (Str × Tok × Value)}{kvs:List (Key × PV)}{ep:Nat}(hm:mg x=some (.ref a))(hl:K.lookup a=some { cls:= .type "dict",data:= .dict (ls.map (CW w)).toArray ep })(ha:(a == sysModules)=false)(hn:(ls.map λp=>(Sum.inr p.1:Key)).Nodup)
  (h:Paired (λ(p:Key × PV) (l:Str × Tok × Value)=>p.1= .inr l.1/\DV K p.2 l.2.2) kvs ls): ∃ a kws,mg x=some (.ref a)/\KD P w K a kws/\ ∀ ρ H,RK K ρ H kvs kws:=by
 obtain⟨kws,r,q⟩:=BY h;exact⟨a,kws,hm,LG hl ha hn r,q⟩
end
abbrev Gm(av:List Value)(n:Nat)(dd:Option Addr)(sl:Array (Option Value)):Obj:={ cls:= .type "tuple",dict:=dd,data:= .seq av.toArray n,slots:=sl }
theorem uJ{k:Int}(h1: -(2 ^ 63)<=k)(h2:k < 2 ^ 63): ¬ (decide (k < -(2 ^ 63))||decide (k ≥ 2 ^ 63))=true:=by
 simp only[Bool.or_eq_true,decide_eq_true_eq];omega
theorem uY(l:Addr)(av:List Value)(n:Nat)(k:Int)(u:Tok)(dd:Option Addr)(sl:Array (Option Value))(h1: -(2 ^ 63)<=k)(h2:k < 2 ^ 63)(hs:(av.toArray.isEmpty||k == 1)=true) :
  Meets (Builtin.«tuple.__mul__» ⟨[.ref l,.int k u],[]⟩) (λ_ R s=>s.heap.get? l=some (Gm av n dd sl)/\R (.ok (.ret (.ref l))) s) :=
 .of_wp λprog w A R s h=>by
  obtain⟨hp,g,d,tk,os⟩:=s;obtain⟨hl,h⟩:=h;have f1:=AutoSeq1.idx_int
  wp_walk using AutoSeq1.wpAny_loadPart' hl,wpAny_load hl
  refine wpAny_ite_split (λz=>absurd z (uJ h1 h2)) (λ_=>?_)
  wp_walk using AutoSeq1.wpAny_loadPart' hl,wpAny_load hl
  refine wpAny_ite_split (λ_=>?_) (λz=>absurd hs z)
  wp_walk using AutoSeq1.wpAny_loadPart' hl,wpAny_load hl
  exact⟨_,rfl,h⟩
theorem uZ(l:Addr)(av:List Value)(n:Nat)(k:Int)(u:Tok)(dd:Option Addr)(sl:Array (Option Value))(h1: -(2 ^ 63)<=k)(h2:k<=0)(hs: ¬ (av.toArray.isEmpty||k == 1)=true) :
  Meets (Builtin.«tuple.__mul__» ⟨[.ref l,.int k u],[]⟩) (λ_ R s=>s.heap.get? l=some (Gm av n dd sl)/\R (.ok (.ret (.ref s.heap.objs.size))) { s with heap:=s.heap.push { cls:= .type "tuple",data:= .seq #[] } }) :=
 .of_wp λprog w A R s h=>by
  obtain⟨hp,g,d,tk,os⟩:=s;obtain⟨hl,h⟩:=h;have f1:=AutoSeq1.idx_int;have hz:(decide (k<=0)||av.toArray.isEmpty)=true:=by simp[h2]
  wp_walk using AutoSeq1.wpAny_loadPart' hl,wpAny_load hl
  refine wpAny_ite_split (λz=>absurd z (uJ h1 (by omega))) (λ_=>?_)
  wp_walk using AutoSeq1.wpAny_loadPart' hl,wpAny_load hl
  refine wpAny_ite_split (λz=>absurd z hs) (λ_=>?_);refine wpAny_ite_split (λ_=>?_) (λz=>absurd hz z);exact wpAny_bind (m:=Builtin.Tuple.tupleExact _) (wpAny_newObj_type (wpAny_pure ⟨_,rfl,h⟩) (by size_fits))
theorem uq(l:Addr)(av:List Value)(n:Nat)(k:Int)(u:Tok)(dd:Option Addr)(sl:Array (Option Value))(h1:0 < k)(h2:(av.length:Int)*k<=100000)(hk:k<=100000)(hs: ¬ (av.toArray.isEmpty||k == 1)=true) :
  Meets (Builtin.«tuple.__mul__» ⟨[.ref l,.int k u],[]⟩) (λ_ R s=>s.heap.get? l=some (Gm av n dd sl)/\R (.ok (.ret (.ref s.heap.objs.size))) { s with heap:=s.heap.push { cls:= .type "tuple",data:= .seq (List.replicate k.toNat av).flatten.toArray } }) :=
 .of_wp λprog w A R s h=>by
  obtain⟨hp,g,d,tk,os⟩:=s;obtain⟨hl,h⟩:=h;have f1:=AutoSeq1.idx_int;have hz: ¬ (decide (k<=0)||av.toArray.isEmpty)=true:=by
   intro z;rw[Bool.or_eq_true,decide_eq_true_eq] at z;rcases z with z | z
   . omega
   . exact hs (by rw[z];rfl)
  have hc1: ¬ ((av.toArray.size:Int)*k > (2 ^ 63 - 1) / 8):=by rw[List.size_toArray];omega
  have hc2: ¬ (Builtin.Tuple.tupleTooMany ((av.toArray.size:Int)*k)=true):=by
   unfold Builtin.Tuple.tupleTooMany;rw[List.size_toArray,decide_eq_true_eq,show((sizeLine:Nat):Int)=16777216 from by decide];omega
  have e0:List.foldl (λx1 x2=>x1++x2) #[] (List.replicate k.toNat av.toArray)=(List.replicate k.toNat av).flatten.toArray:=by
   have:=foldl_rep av k.toNat [];rw[List.nil_append] at this;exact this
  wp_walk using AutoSeq1.wpAny_loadPart' hl,wpAny_load hl
  refine wpAny_ite_split (λz=>absurd z (uJ (by omega) (by omega))) (λ_=>?_)
  wp_walk using AutoSeq1.wpAny_loadPart' hl,wpAny_load hl
  refine wpAny_ite_split (λz=>absurd z hs) (λ_=>?_);refine wpAny_ite_split (λz=>absurd z hz) (λ_=>?_);refine wpAny_ite_split (λhab=>absurd hab hc1) (λ_=>?_);refine wpAny_ite_split (λhab=>absurd hab hc2) (λ_=>?_);refine wpAny_bind (m:=Builtin.Tuple.tupleExact _) (wpAny_newObj_type (wpAny_pure ⟨_,rfl,?_⟩) ?_)
  . rw[e0];exact h
  . rw[e0];show(List.replicate k.toNat av).flatten.toArray.size<=sizeLine;rw[List.size_toArray,len_rep,Nat.mul_comm];refine Nat.le_trans (show av.length*k.toNat<=100000 from ?_) (by decide);have e1:((av.length*k.toNat:Nat):Int)=(av.length:Int)*k:=by rw[Int.natCast_mul,Int.toNat_of_nonneg (by omega)]
    omega
noncomputable def Jr(K:PySem.W.Frag):R2:=λx y H Q=> ∃ a k xs,x= .ref a/\y= .int k/\fe K H a xs/\(xs.length:Int)*k<=100000/\ -100000<=k/\k<=100000/\(xs=[]\/k=1->Q (.ref a) H)/\(¬ (xs=[]\/k=1)-> ∀ p,H p=none->Q (.ref p) (upd H p (.tup (List.replicate k.toNat xs).flatten)))
theorem AX{X:Cx}:di X (binaryOp .Mult) (Jr X.K):=by
 intro pins s σ H x y v u Q I rx ry h;obtain⟨a,k,xs,rfl,rfl,ha,hl,k1,k2,q1,q2⟩:=h;cases(show v=Value.ref a from rx);obtain⟨t,rfl⟩:=ry;obtain⟨av,r1,p1,_⟩:=I.tuple ha;obtain⟨⟨cls,dd,data,sl⟩,ho,hc,n,hd⟩:=id p1;simp only at hc hd;subst hc hd;have hlen:=r1.length;refine wpAny_binaryOp_repeat_ref (T:= "tuple") (U:= "int") (by decide) ⟨_,ho,rfl⟩ (λs'=>typeIs_int s' k t) kM PySem.F.fills_int_mul PySem.F.slot_int_rmul qV PySem.F.slot_int_index.lookup
  (call_meets PySem.F.slot_int_rmul (typeIs_int s k t) PySem.F.entry_int_rmul (PySem.F.args_int_rmul_2 _ _) (nK k t a av.toArray n dd sl) ⟨ho,rfl,⟨_,ho,rfl⟩,?_⟩)
 have hx:xs=[]↔av=[]:=(r1.l6).symm;by_cases hs:xs=[]\/k=1
 . have hb:(av.toArray.isEmpty||k == 1)=true:=by
    rcases hs with z | z
    . rw[hx.mp z];rfl
    . rw[z];simp
   exact call_meets PySem.F.slot_tuple_mul ⟨_,ho,rfl⟩ PySem.F.entry_tuple_mul (PySem.F.args_tuple_mul_2 _ _) (uY a av n k t dd sl (by omega) (by omega) hb) ⟨ho,⟨.ref a,H,I,rfl,q1 hs⟩⟩
 . have hb: ¬ (av.toArray.isEmpty||k == 1)=true:=λz=>hs (by
    rw[Bool.or_eq_true] at z;rcases z with z | z
    . exact .inl (hx.mpr (by simpa using z))
    . exact .inr (by simpa using z))
   by_cases hk:0 < k
   . refine call_meets PySem.F.slot_tuple_mul ⟨_,ho,rfl⟩ PySem.F.entry_tuple_mul (PySem.F.args_tuple_mul_2 _ _) (uq a av n k t dd sl hk (by rw[<- hlen];exact hl) k2 hb) ⟨ho,?_⟩;refine⟨.ref s.heap.objs.size,_,I.laid (t':=s.toks) (o:= .tup (List.replicate k.toNat xs).flatten) (λb ob q=>Heap.get?_push_of_some _ q) (Nat.le_refl _) ?_,rfl,q2 hs _ (I.bx.fresh (Nat.le_refl _))⟩;refine⟨?_,_,r1.rep k.toNat,oT.new _ _⟩;rw[len_rep,Nat.mul_comm];refine Nat.le_trans (show xs.length*k.toNat<=100000 from ?_) (by decide);have e1:((xs.length*k.toNat:Nat):Int)=(xs.length:Int)*k:=by rw[Int.natCast_mul,Int.toNat_of_nonneg (by omega)]
     omega
   . refine call_meets PySem.F.slot_tuple_mul ⟨_,ho,rfl⟩ PySem.F.entry_tuple_mul (PySem.F.args_tuple_mul_2 _ _) (uZ a av n k t dd sl (by omega) (by omega) hb) ⟨ho,?_⟩;refine⟨.ref s.heap.objs.size,_,I.laid (t':=s.toks) (o:= .tup (List.replicate k.toNat xs).flatten) (λb ob q=>Heap.get?_push_of_some _ q) (Nat.le_refl _) ?_,rfl,q2 hs _ (I.bx.fresh (Nat.le_refl _))⟩;have:k.toNat=0:=by omega
     rw[this];exact⟨Nat.zero_le _,[],.nil,oT.new _ _⟩
section
variable{X:Cx}{pg:Tb}{k:Nat}
theorem aw.rep{K:PySem.W.Frag}{ρ :List Addr}{H:Hp}{xs:List PV}{vs:List V}(r:aw K ρ H xs vs): ∀(n:Nat),aw K ρ H (List.replicate n xs).flatten (List.replicate n vs).flatten
 | 0=>aN.mpr rfl
 | n+1=>by rw[List.replicate_succ,List.replicate_succ,List.flatten_cons,List.flatten_cons];exact r.app (r.rep n)
noncomputable def g8:PV->PV->PH->RV PV:=λx y h=>match x,y with
 | .int i,.int j=>if (-(2 ^ 64) < i/\i < 2 ^ 64)\/(-(2 ^ 64) < j/\j < 2 ^ 64) then .ok (.int (i*j)) h else .no
 | .tup xs,.int k=>if (xs.length:Int)*k<=100000/\ -100000<=k/\k<=100000 then .ok (.tup (List.replicate k.toNat xs).flatten) h else .no
 | .ref n,.int k=>(match h[n]? with
  | some (.lst xs)=>if (-(2 ^ 63)<=k/\k < 2 ^ 63)/\xs.length*k.toNat<=sizeLine then .ok (.ref h.length) (h++[.lst (List.replicate k.toNat xs).flatten]) else .no
  | _=> .no)
 | _,_=> .no
theorem I0:dh X pg k-> ∃ r,di X (binaryOp .Mult) r/\lQ X.K r g8:=λ_=>⟨_,Gb.or (AX.or G5),fun ρ h H x y x' y' Q v h' s rx ry q P=>by
 unfold g8 at q;split at q
 . split at q
   . rename_i hc;cases q;rw[rel] at rx;rw[rel] at ry;exact .inl ⟨_,_,rx,ry,hc,P _ ρ H (.refl _ _) s (by rw[rel])⟩
   . exact nomatch q
 . rename_i xs k;split at q
   . rename_i hc;cases q;have rx':=rx;rw[rel] at rx;rw[rel] at ry;obtain⟨a,us,rfl,e2,e3⟩:=rx;refine .inr (.inl ⟨a,k,us,rfl,ry,.of e2,by rw[<- e3.len];exact hc.1,hc.2.1,hc.2.2,λz=>?_,λz p hp=>lZ s (e3.rep _) P p hp⟩);have:(List.replicate k.toNat xs).flatten=xs:=by
      rcases z with z | z
      . subst z;have:xs=[]:=List.eq_nil_of_length_eq_zero e3.len;subst this;simp
      . rw[z];simp[List.replicate]
     rw[this] at P;exact P _ ρ H (.refl _ _) s rx'
   . exact nomatch q
 . split at q
   . rename_i xs en;split at q
     . rename_i hc;cases q;rw[rel] at ry;obtain⟨a,us,rfl,_,e1,e2⟩:=s.lst en rx;exact .inr (.inr ⟨a,_,us,rfl,ry,e1,hc.1.1,hc.1.2,by rw[<- e2.len];exact hc.2,λp hp=>d8 s (e2.rep _) P p hp⟩)
     . exact nomatch q
   . exact nomatch q
 . exact nomatch q⟩
end
section
variable{prog:Program}{w:World}{A:Around}{E:Value->Shared->Prop}{s:Shared}
theorem sO{t:Addr}{us:List Value}{R:List Value->Shared->Prop}(ht:s.heap.IsTuple t us.toArray)(fits:us.length<=sizeLine)
  (q:R us { s with heap:=(s.heap.push (seqObj "list" #[] 0)).update s.heap.objs.size (Obj.mapSeq (· ++us.toArray)) }):wpAny (model prog w) A (collect (.ref t)) R E s:=by
 obtain⟨ob,e1,e2,m,e3⟩:=id ht;have e1':=Heap.get?_push_of_some (seqObj "list" #[] 0) e1;have own:(s.heap.push (seqObj "list" #[] 0)).get? s.heap.objs.size=some (seqObj "list" #[] 0):=Heap.get?_push_size _ rfl;have sum:(#[]:Array Value)++us.toArray=us.toArray:=by simp
 unfold collect;refine wpAny_bind (wpAny_runValue (codeAny_builtin entry_proto_collect' (show wpAny _ _ (newList [] >>= λl=>again (.builtin "list.__iadd__" ⟨[l,.ref t],[]⟩)) _ _ s from ?_)));refine wpAny_bind (wpAny_newList (wpAny_pure ⟨Code.quiet_builtin _ (by decide +kernel),codeAny_builtin entry_list_iadd' (show wpAny _ _ (Builtin.List.listExtendWith _ (.ref t) _) _ _ { s with heap:=s.heap.push (seqObj "list" #[] 0) } from ?_)⟩));unfold PySem.Builtin.List.listExtendWith;refine wpAny_bind (wpAny_typeOf (T:= "tuple") ⟨ob,e1',e2⟩ (Od (by simp) (wpAny_bind (listItems_at e1' e3 (wpAny_bind (listItems_at own rfl ?_))))));refine OR (by simp) (wpAny_bind (listUpdate_at own rfl (wpAny_pure ?_) (Nat.zero_le _) (by rw[sum,List.size_toArray];omega)));refine wpAny_bind (wpAny_load (get?_update_seq own _) ?_);show wpAny _ _ (pure ((#[]:Array Value)++us.toArray).toList) R E _;rw[sum];exact wpAny_pure q
theorem lX{t:Addr}{us:List Value}{ss:List Str}{R:Value->Shared->Prop}(ht:s.heap.IsTuple t us.toArray)(hS:StrsAre us ss)(n64:us.length < 64)
  (q: ∀(out:Array Value)(ss':List Str),StrsAre out.toList ss'->ss'.Perm ss->sortedS ss'=true->R (.ref (s.heap.objs.size+1)) { s with heap:=sortedAll s.heap us out }):wpAny (model prog w) A (call (.builtin "sorted") [.ref t]) R E s:=by
 refine Calls.call_function_entry kind_sorted plain_sorted entry_sorted (args_sorted1 (.ref t)) ?_;unfold Builtin.«sorted»;refine wpAny_bind (m:=checkCount "sorted" 1 1 [Value.ref t].length) (wpAny_pure (wpAny_bind (sO ht (L2.kr n64) (wpAny_bind (wpAny_newList ?_ (L2.kr n64))))));show wpAny _ _ _ _ _ { s with heap:=j4 s.heap us };rw[eV];exact wpAny_bind (wpAny_holding (j0 (iA s.heap us) hS n64 λout ss' a1 a2 a3=>wpAny_pure ⟨_,rfl,q out ss' a1 a2 a3⟩))
end
section
variable{X:Cx}{pg:Tb}{k:Nat}
noncomputable def Ci(K:PySem.W.Frag):List V->Hp->VK->Prop:=λxs H Q=> ∃ p ss,xs=[.ref p]/\fe K H p (ss.map V.str)/\ss.length < 64/\ ∀ l ss',H l=none->ss'.Perm ss->sortedS ss'=true->Q (.ref l) (upd H l (.lst (ss'.map V.str)))
theorem sf:aZ X (.builtin "sorted") (Ci X.K):=by
 intro pins s σ H xs us Q I r ⟨p,ss,e,hS,h64,q⟩;subst e;obtain⟨u,rfl,ru⟩:=vals1 r;cases(show u=Value.ref p from ru);obtain⟨av,hv,hl,hz⟩:=I.tuple hS;have sa:=jy hv;refine lX hl sa (by rw[sa.length];exact h64) λout ss' a1 a2 a3=>?_;obtain⟨e,he⟩:=sortedAll_at s.heap av out;have hlen:(ss'.map V.str).length<=sizeLine:=by rw[List.length_map,a2.length_eq];exact Nat.le_of_lt (Nat.lt_of_lt_of_le h64 (by decide))
 obtain⟨hn,I'⟩:=I.kI (a:=s.heap.objs.size+1) (o:= .lst (ss'.map V.str)) (t':=s.toks) (λb o e=>sortedAll_old e) (Heap.get?_none_of_le (Nat.le_succ _)) ⟨hlen,out.toList,e,iW a1,by simpa [seqObj] using he⟩;exact⟨.ref _,_,I',rfl,q _ ss' hn a2 a3⟩
noncomputable def br:List PV->PH->RV PV:=λxs h=>match xs with
 | [.tup ys]=>(match fR ys with
  | some ss=>if ss.length < 64 then .ok (.ref h.length) (h++[.lst ((aP ss).map PV.str)]) else .no
  | none=> .no)
 | _=>eT xs h
theorem xa:dh X pg k-> ∃ r,aZ X (.builtin "sorted") r/\yp X.K r br:=λA=>⟨_,sf.or (sC A.calm),fun ρ h H xs us Q v h' s r q P=>by
 unfold br at q;split at q
 . rename_i ys;split at q
   . rename_i ss es;split at q
     . rename_i hl;cases q;obtain⟨u,rfl,r1⟩:=bG r;rw[rel] at r1;obtain⟨a,vs,rfl,e1,e2⟩:=r1;rw[iy es,c8] at e2;subst e2;refine .inl ⟨a,ss,rfl,.of e1,hl,λl ss' hp pm so=>?_⟩;rw[oA pm so];exact d8 s (c8.mpr rfl) P l hp
     . exact nomatch q
   . exact nomatch q
 . exact .inr (sk A ρ h H _ us Q v h' s r q P)⟩
end
noncomputable def fin(h:PH)(r:RV Fl):RV PV:=match r with
 | .ok (.rt v) h'=>settle h v h'
 | .ok (.nx _) h'=>settle h .non h'
 | .ok _ _=> .no
 | .ex c us h'=> .ex c us h'
 | .no=> .no
theorem run_eq{pg:Tb}{k:Nat}{f:String}{d:Df}{vs:List PV}{h:PH}(hf:pg.fns f=some d)(hn:vs.length=d.ps.length):run pg (k+1) f vs h=fin h (d.body (run pg k) (vs.map some++List.replicate d.nl none) h):=by
 rw[run,hf];simp only[if_pos hn];rfl
theorem dU{α β :Type}{a: α}{h:PH}{f: α ->PH->RV β}:(RV.ok a h).bind f=f a h:=(rfl)
theorem AJ{h h':PH}{v:PV}:fin h (.ok (.rt v) h')=settle h v h':=(rfl)
theorem CZ{h:PH}{c:Prop}[Decidable c]{a b:RV Fl}:fin h (if c then a else b)=if c then fin h a else fin h b:=by split<;>rfl
theorem lP{h:PH}{v:PV}:settle h v h= .ok v h:=by unfold settle;split<;>simp
theorem bP{h g:PH}{v:PV}(hv:v.flat=true):settle h v (h++g)= .ok v h:=by unfold settle;rw[hv,jx];simp
theorem gX{h h':PH}{v:PV}(hv:v.flat=false):settle h v h'= .ok v h':=by unfold settle;rw[hv];rfl
theorem ve{h g:PH}{v:PV}{i:Nat}{o o':PO}(hv:v.flat=true)(e:h[i]?=some o)(m:o.fU=o'.fU)(hu:o'.i3 h.length=true):settle h v (h.set i o'++g)= .ok v (h.set i o'):=by
 unfold settle;have:cy h.length h (h.set i o'++g)=true:=by
  have h1:=nZ hu h (h++g) i o (jx _ h g) e m
  rwa[List.set_append_left _ _ (List.getElem?_eq_some_iff.mp e).1] at h1
 rw[hv,this];simp[List.take_append_of_le_length]
theorem lu{h:PH}{v:PV}{i:Nat}{o o':PO}:settle h v (h.set i o')= .ok v (h.set i o'):=by
 unfold settle;split
 . rw[<- List.length_set (as:=h) (i:=i) (a:=o'),List.take_length]
 . rfl
theorem aV{a b:String}:Str.ofString a=Str.ofString b↔a=b:=by
 refine⟨λe=>?_,λe=>by rw[e]⟩;rw[Str.ofString_eq_toList,Str.ofString_eq_toList] at e;have e1:a.toList.map Char.toNat=b.toList.map Char.toNat:=by
  have:=congrArg (λs:Str=>s.cps.toList) e;simpa using this
 have inj: ∀{l m:List Char},l.map Char.toNat=m.map Char.toNat->l=m:=by
  intro l
  induction l with
  | nil=>intro m h;cases m with | nil=>rfl | cons=>exact nomatch h
  | cons x r ih =>
   intro m h
   cases m with
   | nil=>exact nomatch h
   | cons y t =>
    simp only[List.cons.injEq,List.map_cons] at h
    have:x=y:=Char.toNat_inj.mp h.1
    rw[this,ih h.2]
 exact String.toList_inj.mp (inj e1)
section
variable{c:CF}{e e1:ax}{h h1:PH}{a b d:ME}{t u:MT}{r:MA}{x y v:PV}{f g:PV->PV->PH->RV PV}{s s':MS}{i n:Nat}
noncomputable def Ny(f:PV->PV->PH->RV PV)(b:ME)(c:CF)(e:ax)(x:PV)(h1:PH):RV PV:=(b c e h1).bind λy h2=>f x y h2
theorem LJ:ag f a b c e h=(a c e h).bind (Ny f b c e):=(rfl)
theorem Gk:Ny f b c e x h1=(b c e h1).bind (f x):=(rfl)
theorem Lm{f:PV->PH->RV PV}:oH f a c e h=(a c e h).bind f:=(rfl)
noncomputable def Mn(o:Option (Option PV))(h:PH):RV PV:=match o with
 | some (some v)=> .ok v h
 | _=> .no
theorem Iy:ab i c e h=Mn (e[i]?) h:=(rfl)
theorem DS:Mn (some (some v)) h= .ok v h:=(rfl)
theorem OJ:eC v c e h= .ok v h:=(rfl)
theorem Ij{p:Bool}:wc (.bl p) h= .ok p h:=(rfl)
noncomputable def JY(b:ME)(c:CF)(e:ax)(x:Bool)(h1:PH):RV PV:=if x=true then b c e h1 else .ok (.bl false) h1
theorem Jt:jL a b c e h=((a c e h).bind wc).bind (JY b c e):=(rfl)
theorem DB:JY b c e true h=b c e h:=(rfl)
theorem DD:JY b c e false h= .ok (.bl false) h:=(rfl)
noncomputable def Pl(b:ME)(c:CF)(e:ax)(x:Bool)(h1:PH):RV PV:=if x=true then .ok (.bl true) h1 else b c e h1
theorem Lz:MK a b c e h=((a c e h).bind wc).bind (Pl b c e):=(rfl)
theorem Gx:Pl b c e true h= .ok (.bl true) h:=(rfl)
theorem Ge:Pl b c e false h=b c e h:=(rfl)
noncomputable def NS(x:Bool)(h1:PH):RV PV:= .ok (.bl (!x)) h1
theorem JM:y7 a c e h=((a c e h).bind wc).bind NS:=(rfl)
theorem Fb{p:Bool}:NS p h= .ok (.bl (!p)) h:=(rfl)
noncomputable def LB(a b:ME)(c:CF)(e:ax)(x:Bool)(h1:PH):RV PV:=if x=true then a c e h1 else b c e h1
theorem Mt:BQ t a b c e h=(t c e h).bind (LB a b c e):=(rfl)
theorem IL:LB a b c e true h=a c e h:=(rfl)
theorem Ka:LB a b c e false h=b c e h:=(rfl)
theorem Kl{p:Prop}[Decidable p]:LB a b c e (decide p) h=if p then a c e h else b c e h:=by unfold LB;by_cases q:p<;>simp[q]
theorem Ic:aq a c e h=(a c e h).bind wc:=(rfl)
noncomputable def zt(u:MT)(c:CF)(e:ax)(x:Bool)(h1:PH):RV Bool:=if x=true then u c e h1 else .ok false h1
theorem ED:kF t u c e h=(t c e h).bind (zt u c e):=(rfl)
theorem yD:zt u c e true h=u c e h:=(rfl)
theorem BN:zt u c e false h= .ok false h:=(rfl)
noncomputable def HH(u:MT)(c:CF)(e:ax)(x:Bool)(h1:PH):RV Bool:=if x=true then .ok true h1 else u c e h1
theorem G7:zW t u c e h=(t c e h).bind (HH u c e):=(rfl)
theorem Er:HH u c e true h= .ok true h:=(rfl)
theorem Dr:HH u c e false h=u c e h:=(rfl)
noncomputable def FG(x:Bool)(h1:PH):RV Bool:= .ok (!x) h1
theorem Eb:oP t c e h=(t c e h).bind FG:=(rfl)
theorem zF{p:Bool}:FG p h= .ok (!p) h:=(rfl)
theorem DJ:fm c e h= .ok true h:=(rfl)
theorem E4:ae c e h= .ok [] h:=(rfl)
noncomputable def HG(x:PV)(xs:List PV)(h2:PH):RV (List PV):= .ok (x::xs) h2
noncomputable def Nw(r:MA)(c:CF)(e:ax)(x:PV)(h1:PH):RV (List PV):=(r c e h1).bind (HG x)
theorem BO:aa a r c e h=(a c e h).bind (Nw r c e):=(rfl)
theorem yb:Nw r c e x h=(r c e h).bind (HG x):=(rfl)
theorem xT{xs:List PV}:HG x xs h= .ok (x::xs) h:=(rfl)
theorem qM{α :Type}{n:Nat}{r:RV α}(hn:n<=16777216):kr n r=r:=by unfold kr;exact if_pos hn
noncomputable def NT(xs:List PV)(h:PH):RV PV:=kr xs.length (.ok (.tup xs) h)
theorem HZ:aA r c e h=(r c e h).bind NT:=(rfl)
theorem Cc{xs:List PV}:NT xs h=kr xs.length (.ok (.tup xs) h):=(rfl)
noncomputable def M4(xs:List PV)(h:PH):RV PV:=kr xs.length (.ok (.ref h.length) (h++[.lst xs]))
theorem II:aH r c e h=(r c e h).bind M4:=(rfl)
theorem Dz{xs:List PV}:M4 xs h=kr xs.length (.ok (.ref h.length) (h++[.lst xs])):=(rfl)
theorem CM{f:String}:ah f r c e h=(r c e h).bind (c f):=(rfl)
theorem OT{f:List PV->PH->RV PV}:eB f r c e h=(r c e h).bind f:=(rfl)
noncomputable def LR(f:PV->List PV->PH->RV PV)(ty:PV->PH->Bool)(r:MA)(c:CF)(e:ax)(x:PV)(h1:PH):RV PV:=if ty x h1=true then(r c e h1).bind (f x) else .no
theorem OC{f:PV->List PV->PH->RV PV}{ty:PV->PH->Bool}:eM f ty a r c e h=(a c e h).bind (LR f ty r c e):=(rfl)
theorem Lq{f:PV->List PV->PH->RV PV}{ty:PV->PH->Bool}(ht:ty x h=true):LR f ty r c e x h=(r c e h).bind (f x):=if_pos ht
noncomputable def Cf(g:PV->PV->PH->RV PV)(d:ME)(c:CF)(e:ax)(y:PV)(k:Bool)(h3:PH):RV PV:=if k=true then(d c e h3).bind (g y) else .ok (.bl false) h3
noncomputable def J6(f g:PV->PV->PH->RV PV)(d:ME)(c:CF)(e:ax)(x y:PV)(h2:PH):RV PV:=((f x y h2).bind wc).bind (Cf g d c e y)
noncomputable def Lh(f g:PV->PV->PH->RV PV)(b d:ME)(c:CF)(e:ax)(x:PV)(h1:PH):RV PV:=(b c e h1).bind (J6 f g d c e x)
theorem NF:mW f g a b d c e h=(a c e h).bind (Lh f g b d c e):=(rfl)
theorem Jo:Lh f g b d c e x h=(b c e h).bind (J6 f g d c e x):=(rfl)
theorem GQ:J6 f g d c e x y h=((f x y h).bind wc).bind (Cf g d c e y):=(rfl)
theorem Es:Cf g d c e y true h=(d c e h).bind (g y):=(rfl)
theorem Di:Cf g d c e y false h= .ok (.bl false) h:=(rfl)
noncomputable def Au(s:MS)(c:CF)(f:Fl)(h1:PH):RV Fl:=match f with
 | .nx e1=>s c e1 h1
 | f=> .ok f h1
theorem Aj:ai s s' c e h=(s c e h).bind (Au s' c):=(rfl)
theorem wa:Au s c (.nx e) h=s c e h:=(rfl)
theorem Ef:Au s c (.rt v) h= .ok (.rt v) h:=(rfl)
theorem Mu:bA c e h= .ok (.nx e) h:=(rfl)
noncomputable def PZ(e:ax)(_:PV)(h1:PH):RV Fl:= .ok (.nx e) h1
theorem Ds:fT a c e h=(a c e h).bind (PZ e):=(rfl)
theorem AB:PZ e x h= .ok (.nx e) h:=(rfl)
noncomputable def Ls(v:PV)(h1:PH):RV Fl:= .ok (.rt v) h1
theorem Gs:az a c e h=(a c e h).bind Ls:=(rfl)
theorem Ec:Ls v h= .ok (.rt v) h:=(rfl)
noncomputable def y0(s s':MS)(c:CF)(e:ax)(x:Bool)(h1:PH):RV Fl:=if x=true then s c e h1 else s' c e h1
theorem IF:bt t s s' c e h=(t c e h).bind (y0 s s' c e):=(rfl)
theorem C2:y0 s s' c e true h=s c e h:=(rfl)
theorem CC:y0 s s' c e false h=s' c e h:=(rfl)
theorem Eu{p:Prop}[Decidable p]:y0 s s' c e (!decide p) h=if p then s' c e h else s c e h:=by unfold y0;by_cases q:p<;>simp[q]
noncomputable def EK(e1:ax)(h2:PH):RV Fl:= .ok (.nx e1) h2
noncomputable def xl(g:MG)(e:ax)(v:PV)(h1:PH):RV Fl:=(g v e h1).bind EK
theorem BD{g:MG}:ak a g c e h=(a c e h).bind (xl g e):=(rfl)
theorem wg:xl (gN i) e v h= .ok (.nx (e.set i (some v))) h:=(rfl)
theorem EB{n:Nat}{gs:List PV->ax->PH->RV ax}:xl (gT n gs) e v h=(gT n gs v e h).bind EK:=(rfl)
theorem HL:EK e h= .ok (.nx e) h:=(rfl)
theorem Fp:gN i v e h= .ok (e.set i (some v)) h:=(rfl)
theorem Jg{gs:List PV->ax->PH->RV ax}{x1 x2:PV}:gT 2 gs (.tup [x1,x2]) e h=gs [x1,x2] e h:=(rfl)
theorem Jh{gs:List PV->ax->PH->RV ax}{x1 x2 x3 x4:PV}:gT 4 gs (.tup [x1,x2,x3,x4]) e h=gs [x1,x2,x3,x4] e h:=(rfl)
theorem JX:dA [] e h= .ok e h:=(rfl)
theorem IM{g:MG}{r:List PV->ax->PH->RV ax}{t:List PV}:aG g r (v::t) e h=(g v e h).bind (r t):=(rfl)
noncomputable def BF(f:PV->PV->PV->PH->RV Unit)(e:ax)(v x y:PV)(h3:PH):RV Fl:=(f x y v h3).bind λ_ h4=> .ok (.nx e) h4
noncomputable def AD(f:PV->PV->PV->PH->RV Unit)(i:ME)(c:CF)(e:ax)(v x:PV)(h2:PH):RV Fl:=(i c e h2).bind (BF f e v x)
noncomputable def Fz(f:PV->PV->PV->PH->RV Unit)(o i:ME)(c:CF)(e:ax)(v:PV)(h1:PH):RV Fl:=(o c e h1).bind (AD f i c e v)
theorem Il{f:PV->PV->PV->PH->RV Unit}{o i:ME}:jR f o i a c e h=(a c e h).bind (Fz f o i c e):=(rfl)
theorem C7{f:PV->PV->PV->PH->RV Unit}{o i:ME}:Fz f o i c e v h=(o c e h).bind (AD f i c e v):=(rfl)
theorem Ex{f:PV->PV->PV->PH->RV Unit}{i:ME}:AD f i c e v x h=(i c e h).bind (BF f e v x):=(rfl)
noncomputable def P6(e:ax)(_:Unit)(h:PH):RV Fl:= .ok (.nx e) h
theorem Cg{f:PV->PV->PV->PH->RV Unit}:BF f e v x y h=(f x y v h).bind (P6 e):=(rfl)
theorem GR{u:Unit}:P6 e u h= .ok (.nx e) h:=(rfl)
noncomputable def bW(g:MG)(s:MS)(c:CF)(x:PV)(e:ax)(h:PH):RV Fl:=(g x e h).bind (s c)
noncomputable def fork(g:MG)(s:MS)(c:CF)(e:ax)(it:hW)(h1:PH):RV Fl:=bF it (bW g s c) it.items e h1
theorem Gf{i:MI}{g:MG}:gp i g s c e h=(i c e h).bind (fork g s c e):=(rfl)
theorem DP{g:MG}{it:hW}:fork g s c e it h=bF it (bW g s c) it.items e h:=(rfl)
theorem tD{g:MG}:bW g s c x e h=(g x e h).bind (s c):=(rfl)
theorem Ia:mK a c e h=(a c e h).bind xo:=(rfl)
theorem Iv{xs:List PV}:xo (.tup xs) h= .ok ⟨none,xs⟩ h:=(rfl)
noncomputable def OS(n:Nat)(h:PH)(o:Option PO):RV hW:=match o with
 | some (.lst xs)=> .ok ⟨some n,xs⟩ h
 | some (.kD xs)=> .ok ⟨some n,xs⟩ h
 | _=> .no
theorem KP{n:Nat}:xo (.ref n) h=OS n h (h[n]?):=by
 have e:xo (.ref n) h=(match de h n with | some xs=> .ok ⟨some n,xs⟩ h | none=> .no):=rfl;rw[e];unfold de OS;generalize h[n]?=oo;cases oo with
 | none=>rfl
 | some o=>cases o<;>rfl
theorem J4{n:Nat}{xs:List PV}:OS n h (some (.lst xs))= .ok ⟨some n,xs⟩ h:=(rfl)
noncomputable def N6 (vs:List PV) (h1:PH):RV hW:=match vs with
 | [.int j]=>if -(2 ^ 62)<=j∧j < 2 ^ 62 then .ok ⟨none,bq 0 j.toNat⟩ h1 else .no
 | _=> .no
theorem HB : dy r c e h = (r c e h).bind N6 := by
  unfold dy;generalize r c e h = z;cases z with
  | ok a b =>
    rw [cL, cL]
    unfold N6
    split
    . rfl
    . rename_i hx
      first
      | rfl
      | (split
         . exact absurd rfl (hx _)
         . rfl)
  | ex a b d => rfl
  | no => rfl
theorem Fe {j:Int} (hj: -4611686018427387904<=j∧j < 4611686018427387904):N6 [.int j] h= .ok ⟨none,bq 0 j.toNat⟩ h:=by
 unfold N6;exact if_pos (by omega)
noncomputable def Pp (x y:PV) (h2:PH):RV hW:=match x.seq?,y.seq? with
 | some xs,some ys=> .ok ⟨none,(xs.zip ys).map λp=> .tup [p.1,p.2]⟩ h2
 | _,_=> .no
noncomputable def PU(b:ME)(c:CF)(e:ax)(x:PV)(h1:PH):RV hW:=(b c e h1).bind (Pp x)
theorem GU:Kx a b c e h=(a c e h).bind (PU b c e):=(rfl)
theorem EX:PU b c e x h=(b c e h).bind (Pp x):=(rfl)
theorem Ai{xs ys:List PV}:Pp (.ktup xs) (.tup ys) h= .ok ⟨none,(xs.zip ys).map λp=> .tup [p.1,p.2]⟩ h:=(rfl)
noncomputable def N5(it:hW)(step:PV->ax->PH->RV Fl)(xs:List PV)(f:Fl)(h1:PH):RV Fl:=match f with
 | .nx e1=>bF it step xs e1 h1
 | .ct e1=>bF it step xs e1 h1
 | .bk e1=> .ok (.nx e1) h1
 | .rt v=> .ok (.rt v) h1
theorem iu{xs:List PV}{step:PV->ax->PH->RV Fl}:bF ⟨none,xs⟩ step [] e h= .ok (.nx e) h:=(rfl)
theorem ft{xs ys:List PV}{step:PV->ax->PH->RV Fl}:bF ⟨none,xs⟩ step (y::ys) e h=(step y e h).bind (N5 ⟨none,xs⟩ step ys):=(rfl)
theorem mE{it:hW}{step:PV->ax->PH->RV Fl}(hf:it.fH h=true):bF it step [] e h= .ok (.nx e) h:=by rw[bF,if_pos hf]
theorem iU{it:hW}{ys:List PV}{step:PV->ax->PH->RV Fl}(hf:it.fH h=true):bF it step (y::ys) e h=(step y e h).bind (N5 it step ys):=by rw[bF,if_pos hf];rfl
theorem cB{it:hW}{xs:List PV}{step:PV->ax->PH->RV Fl}:N5 it step xs (.nx e) h=bF it step xs e h:=(rfl)
theorem q9{it:hW}{xs:List PV}{step:PV->ax->PH->RV Fl}:N5 it step xs (.rt v) h= .ok (.rt v) h:=(rfl)
noncomputable def Js(ys:List PV)(h2:PH):RV PV:= .ok (.ref h2.length) (h2++[.lst ys])
noncomputable def Li(k:Nat)(g:MG)(t:MT)(a:ME)(c:CF)(e:ax)(it:hW)(h1:PH):RV PV:=(jK it (bU k g t a c e) it.items [] h1).bind Js
theorem LK{k:Nat}{i:MI}{g:MG}:oZ k i g t a c e h=(i c e h).bind (Li k g t a c e):=(rfl)
theorem F7{k:Nat}{g:MG}{it:hW}:Li k g t a c e it h=(jK it (bU k g t a c e) it.items [] h).bind Js:=(rfl)
theorem Hs{ys:List PV}:Js ys h= .ok (.ref h.length) (h++[.lst ys]):=(rfl)
noncomputable def BM(y:PV)(h4:PH):RV (Option PV):= .ok (some y) h4
noncomputable def rW(a:ME)(c:CF)(e2:ax)(b:Bool)(h3:PH):RV (Option PV):=if b=true then(a c e2 h3).bind BM else .ok none h3
noncomputable def MJ(t:MT)(a:ME)(c:CF)(e2:ax)(h2:PH):RV (Option PV):=(t c e2 h2).bind (rW a c e2)
theorem Lx{k:Nat}{g:MG}:bU k g t a c e x h=(g x (e++List.replicate k none) h).bind (MJ t a c):=(rfl)
theorem F3:MJ t a c e h=(t c e h).bind (rW a c e):=(rfl)
theorem Eo:rW a c e true h=(a c e h).bind BM:=(rfl)
theorem EE:rW a c e false h= .ok none h:=(rfl)
theorem Ed{p:Prop}[Decidable p]:rW a c e (decide p) h=if p then(a c e h).bind BM else .ok none h:=by unfold rW;by_cases q:p<;>simp[q]
theorem Dy{p:Prop}[Decidable p]:rW a c e (!decide p) h=if p then .ok none h else(a c e h).bind BM:=by unfold rW;by_cases q:p<;>simp[q]
theorem Kk:BM y h= .ok (some y) h:=(rfl)
theorem fY{α :Type}{it:hW}(hf:it.fH h=true){step:PV->PH->RV (Option PV)}{f: α ->Option PV}{g: α ->PV}: ∀(l:List α)(ys:List PV),(∀ x∈l,step (g x) h= .ok (f x) h)->l.length+ys.length<=16777216->jK it step (l.map g) ys h= .ok (ys++l.filterMap f) h
 | [],ys,_,_=>by rw[List.map_nil,jK,if_pos hf];simp
 | x::xs,ys,hs,hl=>by
  have hl':ys.length < sizeLine:=by rw[List.length_cons] at hl;show ys.length < 16777216;omega
  rw[List.map_cons,jK,if_pos ⟨hf,hl'⟩,hs x List.mem_cons_self,cL];cases q:f x with
  | none=>exact(fY hf xs ys (λy m=>hs y (List.mem_cons_of_mem _ m)) (by rw[List.length_cons] at hl;omega)).trans (by rw[List.filterMap_cons_none q])
  | some y=>exact(fY hf xs (ys++[y]) (λz m=>hs z (List.mem_cons_of_mem _ m)) (by rw[List.length_cons] at hl;simp;omega)).trans (by rw[List.filterMap_cons_some q];simp)
end
section
variable{h:PH}{i j:Int}{a b:Str}{x y z w u v:PV}{r xs ys:List PV}{p q:Bool}{n m:Nat}
theorem D9:nX (.int i) (.int j) h= .ok (.int (i - j)) h:=(rfl)
theorem CA:aE (.int i) (.int j) h= .ok (.int (i+j)) h:=(rfl)
theorem vW(hl:xs.length+ys.length<=16777216):aE (.tup xs) (.tup ys) h= .ok (.tup (xs++ys)) h:=qM hl
theorem gS(e1:h[n]?=some (.lst xs))(e2:h[m]?=some (.lst ys))(hl:xs.length+ys.length<=16777216):aE (.ref n) (.ref m) h= .ok (.ref h.length) (h++[.lst (xs++ys)]):=by
 unfold aE;simp only[e1,e2];exact qM (by simpa using hl)
theorem ES(hj:0 < j):eA (.int i) (.int j) h= .ok (.int (i % j)) h:=by unfold eA p2;simp[hj,BS,cL]
theorem BE(hj:0 < j/\j < 1073741824):mR (.int i) (.int j) h= .ok (.int (i / j)) h:=by unfold mR p2;simp[hj,BS,cL]
theorem Dd(hj:0<=j/\j<=1000000/\i.natAbs < 18446744073709551616):xU (.int i) (.int j) h= .ok (.int (i ^ j.toNat)) h:=by
 unfold xU p2;simp only;rw[if_pos (by exact⟨hj.1,hj.2.1,by have:=hj.2.2;omega⟩)];rfl
theorem Cv(hi: -18446744073709551616 < i/\i < 18446744073709551616):g8 (.int i) (.int j) h= .ok (.int (i*j)) h:=if_pos (.inl (by omega))
theorem mB(hj: -18446744073709551616 < j/\j < 18446744073709551616):g8 (.int i) (.int j) h= .ok (.int (i*j)) h:=if_pos (.inr (by omega))
theorem F5:Br (.int i) (.int j) h= .ok (.bl (decide (i < j))) h:=(rfl)
theorem Gu:K1 (.int i) (.int j) h= .ok (.bl (decide (i<=j))) h:=(rfl)
theorem Kb:wk (.int i) (.int j) h= .ok (.bl (decide (j < i))) h:=(rfl)
theorem Hy:Oz (.int i) (.int j) h= .ok (.bl (decide (j<=i))) h:=(rfl)
theorem EM:B5 (.int i) h= .ok (.int (-i)) h:=(rfl)
theorem De:cm (.str a) (.str b) h= .ok (.bl (decide (a=b))) h:=by simp[cm,alike,gZ]
theorem EL:cm (.int i) (.int j) h= .ok (.bl (decide (i=j))) h:=by simp[cm,alike,gZ]
theorem rn:fX (.str a) (.str b) h= .ok (.bl (!decide (a=b))) h:=by simp[fX,alike,gZ,eg]
theorem B7:fX (.int i) (.int j) h= .ok (.bl (!decide (i=j))) h:=by simp[fX,alike,gZ,eg]
theorem Nz:ar (.tup (x::r)) (.int 0) h= .ok x h:=by
 simp only[ar,eP,qW];rw[if_pos (by decide),if_pos (by simp only[List.length_cons];omega)];rfl
theorem vq:ar (.tup (x::y::r)) (.int 1) h= .ok y h:=by
 simp only[ar,eP,qW];rw[if_pos (by decide),if_pos (by simp only[List.length_cons];omega)];rfl
theorem vw:ar (.tup (x::y::z::r)) (.int 2) h= .ok z h:=by
 simp only[ar,eP,qW];rw[if_pos (by decide),if_pos (by simp only[List.length_cons];omega)];rfl
theorem Ot:ar (.tup (x::y::z::w::u::r)) (.int 4) h= .ok u h:=by
 simp only[ar,eP,qW];rw[if_pos (by decide),if_pos (by simp only[List.length_cons];omega)];rfl
theorem nF(e:eP xs i=some v):ar (.tup xs) (.int i) h= .ok v h:=by simp only[ar,e]
theorem dJ{α :Type}{xs:List α}{i:Int}{n:Nat}(e:i=(n:Int)){v: α}(q:xs[n]?=some v):eP xs i=some v:=by
 have hl:n < xs.length:=(List.getElem?_eq_some_iff.mp q).1;subst e;unfold eP qW;rw[if_pos (by omega),if_pos (by omega)];simpa using q
noncomputable def FE(y:PV)(h:PH)(o:Option PO):RV PV:=match o with
 | some (.dct kvs)=>(match gJ y with
  | some k=>(match bV kvs k with | some v=> .ok v h | none=> .no)
  | none=> .no)
 | some (.lst xs)=>(match y with
  | .int i=>(match eP xs i with | some v=> .ok v h | none=> .no)
  | _=> .no)
 | some (.kD xs)=>(match y with
  | .int i=>(match eP xs i with | some v=> .ok v h | none=> .no)
  | _=> .no)
 | none=> .no
theorem CK:ar (.ref n) y h=FE y h (h[n]?):=by
 unfold FE;simp only[ar]
 all_goals (generalize h[n]?=oo;rcases oo with _ | o<;>first | rfl | (cases o<;>rfl))
noncomputable def Nb(h:PH)(o:Option PV):RV PV:=match o with
 | some v=> .ok v h
 | none=> .no
theorem EZ{kvs:List (Key × PV)}:FE (.str a) h (some (.dct kvs))=Nb h (bV kvs (.inr a)):=(rfl)
theorem CD:FE (.int i) h (some (.lst xs))=Nb h (eP xs i):=(rfl)
theorem Ow:FE (.int i) h (some (.kD xs))=Nb h (eP xs i):=(rfl)
theorem mH:Nb h (some v)= .ok v h:=(rfl)
theorem rE{k:Key}{kvs:List (Key × PV)}:bV ((k,v)::kvs) k=some v:=by simp[bV]
theorem tm{k k':Key}{kvs:List (Key × PV)}(ne:k'≠k):bV ((k',v)::kvs) k=bV kvs k:=by simp[bV,ne]
noncomputable def zH(n:Nat)(y v:PV)(h:PH)(o:Option PO):RV Unit:=match o with
 | some (.dct kvs)=>(match gJ y with
  | some k=>if kvs.length < sizeLine then .ok () (h.set n (.dct (eQ kvs k v))) else .no
  | none=> .no)
 | some (.lst xs)=>(match y with
  | .int i=>(match qW xs.length i with | some j=> .ok () (h.set n (.lst (xs.set j v))) | none=> .no)
  | _=> .no)
 | _=> .no
theorem LI:i7 (.ref n) y v h=zH n y v h (h[n]?):=by
 unfold zH;simp only[i7]
 all_goals (generalize h[n]?=oo;rcases oo with _ | o<;>first | rfl | (cases o<;>rfl))
theorem nI{kvs:List (Key × PV)}(hl:kvs.length < 16777216):zH n (.str a) v h (some (.dct kvs))= .ok () (h.set n (.dct (eQ kvs (.inr a) v))):=if_pos hl
noncomputable def OZ(n:Nat)(v:PV)(h:PH)(o:Option PO):RV PV:=match o with
 | some (.lst xs)=>if xs.length < sizeLine then .ok .non (h.set n (.lst (xs++[v]))) else .no
 | _=> .no
theorem OU:cV (.ref n) [v] h=OZ n v h (h[n]?):=by
 unfold OZ;simp only[cV]
 all_goals (generalize h[n]?=oo;rcases oo with _ | o<;>first | rfl | (cases o<;>rfl))
theorem xb(hl:xs.length < 16777216):OZ n v h (some (.lst xs))= .ok .non (h.set n (.lst (xs++[v]))):=if_pos hl
theorem len_T:bN [.tup xs] h= .ok (.int xs.length) h:=(rfl)
theorem FO(e:h[n]?=some (.lst xs)):bN [.ref n] h= .ok (.int xs.length) h:=by simp[bN,itemsOf,de,e]
theorem HN:sv [.tup xs] h= .ok (.ref h.length) (h++[.lst xs]):=(rfl)
theorem Nt:Al [.bl p] h= .ok (.int (if p then 1 else 0)) h:=(rfl)
theorem Mw:dO false .non h= .ok (.bl true) h:=(rfl)
theorem M0:dO false (.int i) h= .ok (.bl false) h:=by simp[dO]
theorem Mf:dO false (.str a) h= .ok (.bl false) h:=by simp[dO]
theorem NU:dO false (.tup xs) h= .ok (.bl false) h:=by simp[dO]
theorem Hd:dO true .non h= .ok (.bl false) h:=(rfl)
theorem Kc:dO true (.int i) h= .ok (.bl true) h:=by simp[dO]
section
variable{c:CF}{e:ax}{d k1 k2:ME}{rr:MA}{kvs:List (Key × PV)}{ff:PV->List PV->PH->RV PV}
noncomputable def Pb(a:Str)(z:PV)(h:PH)(o:Option PO):RV PV:=match o with
 | some (.dct kvs)=> .ok ((bV kvs (.inr a)).getD z) h
 | _=> .no
noncomputable def N3(x y z:PV)(h3:PH):RV PV:=match x,gJ y with
 | .ref n,some key=>(match h3[n]? with
  | some (.dct kvs)=> .ok ((bV kvs key).getD z) h3
  | _=> .no)
 | _,_=> .no
noncomputable def N1(b:ME)(c:CF)(e:ax)(x y:PV)(h2:PH):RV PV:=(b c e h2).bind (N3 x y)
noncomputable def O4(a b:ME)(c:CF)(e:ax)(x:PV)(h1:PH):RV PV:=if eg h1 x=true then(a c e h1).bind (N1 b c e x) else .no
noncomputable def ON(a b:ME)(c:CF)(e:ax)(n:Nat)(h:PH)(o:Option PO):RV PV:=match o with
 | some (.dct _)=>(a c e h).bind (N1 b c e (.ref n))
 | _=> .no
theorem Kr:wK d k1 k2 c e h=(d c e h).bind (O4 k1 k2 c e):=(rfl)
theorem Cz:O4 k1 k2 c e (.ref n) h=ON k1 k2 c e n h (h[n]?):=by
 unfold O4 ON eg;cases q:h[n]? with
 | none=>simp[q]
 | some o=>cases o<;>simp[q]
theorem Bc:ON k1 k2 c e n h (some (.dct kvs))=(k1 c e h).bind (N1 k2 c e (.ref n)):=(rfl)
theorem CO:N1 k2 c e x y h=(k2 c e h).bind (N3 x y):=(rfl)
theorem Dt:N3 (.ref n) (.str a) z h=Pb a z h (h[n]?):=by
 unfold N3 Pb gJ;simp only
theorem yR:Pb a z h (some (.dct kvs))= .ok ((bV kvs (.inr a)).getD z) h:=(rfl)
noncomputable def O3(f:PV->List PV->PH->RV PV)(r:MA)(c:CF)(e:ax)(n:Nat)(h:PH)(o:Option PO):RV PV:=match o with
 | some (.lst _)=>(r c e h).bind (f (.ref n))
 | _=> .no
theorem LA:LR ff eG rr c e (.ref n) h=O3 ff rr c e n h (h[n]?):=by
 unfold LR O3 eG;cases q:h[n]? with
 | none=>simp[q]
 | some o=>cases o<;>simp[q]
theorem IU:O3 ff rr c e n h (some (.lst xs))=(rr c e h).bind (ff (.ref n)):=(rfl)
noncomputable def Iw(ys:List PV)(h:PH)(o:Option (List (Key × PV))):RV PV:=match o with
 | some kvs=>if ys.length < sizeLine then .ok (.ref h.length) (h++[.dct (bH [] kvs)]) else .no
 | none=> .no
theorem ur:eR [.tup ys] h=Iw ys h (ir ys):=by
 unfold eR Iw;cases q:ir ys<;>simp[q]
theorem qY(hl:ys.length < 16777216):Iw ys h (some kvs)= .ok (.ref h.length) (h++[.dct (bH [] kvs)]):=if_pos hl
theorem zE:jn c e h= .ok (.ref h.length) (h++[.dct []]):=(rfl)
end
noncomputable def O7(h:PH)(o:Option PO):RV PV:=match o with
 | some (.lst xs)=> .ok (.tup xs) h
 | some (.kD xs)=> .ok (.tup xs) h
 | _=> .no
theorem wq:bC [.ref n] h=O7 h (h[n]?):=by
 unfold O7;cases q:h[n]? with
 | none=>simp[bC,de,q]
 | some o=>cases o<;>simp[bC,de,q]
theorem tJ:O7 h (some (.lst xs))= .ok (.tup xs) h:=(rfl)
noncomputable def N0(h:PH)(o:Option PO):RV PV:=match o with
 | some (.lst xs)=> .ok (.int xs.length) h
 | some (.kD xs)=> .ok (.int xs.length) h
 | some (.dct kvs)=> .ok (.int kvs.length) h
 | _=> .no
theorem Me:bN [.ref n] h=N0 h (h[n]?):=by
 unfold N0;cases q:h[n]? with
 | none=>simp[bN,itemsOf,de,q]
 | some o=>cases o<;>simp[bN,itemsOf,de,q]
theorem JL:N0 h (some (.lst xs))= .ok (.int xs.length) h:=(rfl)
theorem Gw:N0 h (some (.kD xs))= .ok (.int xs.length) h:=(rfl)
theorem jW{a:Str}: ∀{ss:List Str},((ss.map PV.str).any λz=>KS z (.str a))=decide (a∈ss)
 | []=>by simp
 | x::t=>by
  rw[List.map_cons,List.any_cons,jW];by_cases e:x=a
  . subst e;simp[KS]
  . have e': ¬ a=x:=λz=>e z.symm;simp[KS,e,e']
theorem all_strs: ∀{ss:List Str},((ss.map PV.str).all fV)=true
 | []=>rfl
 | x::t=>by rw[List.map_cons,List.all_cons,all_strs];rfl
theorem uD{ss:List Str}:jI (.str a) (.tup (ss.map PV.str)) h= .ok (.bl (decide (a∈ss))) h:=by
 have:isIn (.str a) (.tup (ss.map PV.str)) h=some (decide (a∈ss)):=by
  unfold isIn;simp only[itemsOf,all_strs,fV,Bool.and_self,if_true,jW]
 unfold jI;rw[this]
theorem EC{ss:List Str}:kZ (.str a) (.tup (ss.map PV.str)) h= .ok (.bl (!decide (a∈ss))) h:=by
 have:isIn (.str a) (.tup (ss.map PV.str)) h=some (decide (a∈ss)):=by
  unfold isIn;simp only[itemsOf,all_strs,fV,Bool.and_self,if_true,jW]
 unfold kZ;rw[this]
theorem in_K{ss:List Str}:jI (.str a) (.ktup (ss.map PV.str)) h= .ok (.bl (decide (a∈ss))) h:=by
 have:isIn (.str a) (.ktup (ss.map PV.str)) h=some (decide (a∈ss)):=by
  unfold isIn;simp only[itemsOf,all_strs,fV,Bool.and_self,if_true,jW]
 unfold jI;rw[this]
section
variable{c:CF}{e:ax}{d:ME}{kvs:List (Key × PV)}
noncomputable def P0(kvs:List (Key × PV))(x:PV)(h:PH):RV PV:=match gJ x with
 | some key=>(match bV kvs key with
  | some v=> .ok v h
  | none=> .no)
 | none=> .no
theorem L5:AA kvs d c e h=(d c e h).bind (P0 kvs):=(rfl)
theorem Kd:P0 kvs (.str a) h=Nb h (bV kvs (.inr a)):=(rfl)
end
section
variable{c:CF}{e:ax}{d:ME}{l uu:MO}
noncomputable def IP(uu:MO)(c:CF)(e:ax)(x:PV)(lo:Option Int)(h:PH):RV PV:=(uu c e h).bind (Ck x lo)
noncomputable def NG(l uu:MO)(c:CF)(e:ax)(x:PV)(h:PH):RV PV:=(l c e h).bind (IP uu c e x)
theorem Mq:jJ d l uu c e h=(d c e h).bind (NG l uu c e):=(rfl)
theorem Gn:NG l uu c e x h=(l c e h).bind (IP uu c e x):=(rfl)
theorem F8{lo:Option Int}:IP uu c e x lo h=(uu c e h).bind (Ck x lo):=(rfl)
theorem Mp:cn c e h= .ok none h:=(rfl)
noncomputable def Qh(v:PV)(h1:PH):RV (Option Int):=match v with
 | .int i=> .ok (some i) h1
 | _=> .no
theorem NV:cq d c e h=(d c e h).bind Qh:=(rfl)
theorem Hq:Qh (.int i) h= .ok (some i) h:=(rfl)
theorem LH{lo hi:Option Int}:Ck (.tup xs) lo hi h= .ok (.tup (dZ xs lo hi)) h:=(rfl)
noncomputable def Om(lo hi:Option Int)(h:PH)(o:Option PO):RV PV:=match o with
 | some (.lst xs)=> .ok (.ref h.length) (h++[.lst (dZ xs lo hi)])
 | some (.kD xs)=> .ok (.ref h.length) (h++[.lst (dZ xs lo hi)])
 | _=> .no
theorem Pq{lo hi:Option Int}:Ck (.ref n) lo hi h=Om lo hi h (h[n]?):=by
 unfold Om;cases q:h[n]? with
 | none=>simp[Ck,de,q]
 | some o=>cases o<;>simp[Ck,de,q]
theorem La{lo hi:Option Int}:Om lo hi h (some (.lst xs))= .ok (.ref h.length) (h++[.lst (dZ xs lo hi)]):=(rfl)
theorem fF{lo:Int}(h0:0<=lo):dZ xs (some lo) none=xs.drop lo.toNat:=by
 have e:lo=((lo.toNat:Nat):Int):=by omega
 unfold dZ;rw[e,HT.l8,HT.j2];simp only[Int.toNat_natCast];rcases Nat.le_total lo.toNat xs.length with z | z
 . rw[Nat.min_eq_left z];exact List.take_of_length_le (by rw[List.length_drop];omega)
 . rw[Nat.min_eq_right z,List.drop_eq_nil_of_le (Nat.le_refl _),List.drop_eq_nil_of_le z];simp
theorem mO{hi:Int}(h0:0<=hi):dZ xs none (some hi)=xs.take hi.toNat:=by
 have e:hi=((hi.toNat:Nat):Int):=by omega
 unfold dZ;rw[e,HT.l8,HT.j2];simp only[Int.toNat_natCast,List.drop_zero,Nat.sub_zero];rcases Nat.le_total hi.toNat xs.length with z | z
 . rw[Nat.min_eq_left z]
 . rw[Nat.min_eq_right z,List.take_of_length_le (Nat.le_refl _),List.take_of_length_le z]
end
variable{o o':PO}{g:PH}{k:Nat}
theorem aY:(h++(o::g))[h.length]?=some o:=by rw[List.getElem?_append_right (Nat.le_refl _)];simp
theorem aJ:(h++g)[h.length+k]?=g[k]?:=by rw[List.getElem?_append_right (by omega)];congr 1;omega
theorem aU(hn:n < h.length):(h++g)[n]?=h[n]?:=List.getElem?_append_left hn
theorem eY:(h++g).set h.length o=h++g.set 0 o:=by rw[List.set_append_right _ _ (Nat.le_refl _)];simp
theorem vv:(h++g).set (h.length+k) o=h++g.set k o:=by rw[List.set_append_right _ _ (by omega)];congr 2;omega
theorem bD(e:h[n]?=some o):n < h.length:=(List.getElem?_eq_some_iff.mp e).1
end
section
variable{h:PH}{i j:Int}{a b:Str}{x y z w u v:PV}{r xs ys:List PV}{p q:Bool}{n m:Nat}
theorem gC:cu [.tup xs,.ty "tuple"] h= .ok (.bl true) h:=(rfl)
theorem Iz:cu [.tup xs,.ty "bool"] h= .ok (.bl false) h:=(rfl)
theorem GD:cu [.tup xs,.ty "str"] h= .ok (.bl false) h:=(rfl)
theorem JJ:cu [.int i,.ty "tuple"] h= .ok (.bl false) h:=(rfl)
theorem jF:cu [.int i,.ty "bool"] h= .ok (.bl false) h:=(rfl)
theorem nY:cu [.int i,.ty "int"] h= .ok (.bl true) h:=(rfl)
theorem GL:cu [.int i,.ty "str"] h= .ok (.bl false) h:=(rfl)
theorem uV:cu [.int i,.tup [.ty "tuple",.ty "list"]] h= .ok (.bl false) h:=(rfl)
theorem Ki:cu [.str a,.ty "tuple"] h= .ok (.bl false) h:=(rfl)
theorem qQ:cu [.str a,.ty "bool"] h= .ok (.bl false) h:=(rfl)
theorem qw:cu [.str a,.ty "int"] h= .ok (.bl false) h:=(rfl)
theorem IB:cu [.str a,.ty "str"] h= .ok (.bl true) h:=(rfl)
theorem qu:cu [.str a,.tup [.ty "tuple",.ty "list"]] h= .ok (.bl false) h:=(rfl)
theorem IA:cu [.bl p,.ty "tuple"] h= .ok (.bl false) h:=(rfl)
theorem Hz:cu [.non,.ty "tuple"] h= .ok (.bl false) h:=(rfl)
theorem J0:cu [.non,.ty "bool"] h= .ok (.bl false) h:=(rfl)
theorem GI:cu [.non,.ty "str"] h= .ok (.bl false) h:=(rfl)
theorem DL:eP (x::r) 0=some x:=by simp only[eP,qW];rw[if_pos (by decide),if_pos (by simp only[List.length_cons];omega)];rfl
theorem Hb:eP (x::y::r) 1=some y:=by simp only[eP,qW];rw[if_pos (by decide),if_pos (by simp only[List.length_cons];omega)];rfl
theorem Nu:eP (x::y::z::r) 2=some z:=by simp only[eP,qW];rw[if_pos (by decide),if_pos (by simp only[List.length_cons];omega)];rfl
theorem O6:eP (x::y::z::w::r) 3=some w:=by simp only[eP,qW];rw[if_pos (by decide),if_pos (by simp only[List.length_cons];omega)];rfl
theorem Jn:dZ (x::xs) (some 1) none=xs:=by rw[P3.fF (by decide)];rfl
end
section
variable{c:CF}{e:ax}{h h1:PH}{a b:ME}{r:MP}{x y v:PV}{kvs:List (Key × PV)}{key:Key}{s:Str}{i:Int}{n:Nat}
noncomputable def IG(n:Nat)(kvs:List (Key × PV))(h1:PH):RV PV:=if h1[n]?=some (.dct [])/\kvs.length<=15 then .ok (.ref n) (h1.set n (.dct (bH [] kvs))) else .no
noncomputable def OB(key:Key)(v:PV)(kvs:List (Key × PV))(h3:PH):RV (List (Key × PV)):= .ok ((key,v)::kvs) h3
noncomputable def O5(key:Key)(r:MP)(c:CF)(e:ax)(v:PV)(h2:PH):RV (List (Key × PV)):=(r c e h2).bind (OB key v)
noncomputable def Pz(b:ME)(r:MP)(c:CF)(e:ax)(x:PV)(h1:PH):RV (List (Key × PV)):=match gJ x with
 | some key=>(b c e h1).bind (O5 key r c e)
 | none=> .no
theorem mh:pO r c e h=(r c e (h++[.dct []])).bind (IG h.length):=(rfl)
theorem rp:xg c e h= .ok [] h:=(rfl)
theorem qH:fD a b r c e h=(a c e h).bind (Pz b r c e):=(rfl)
theorem mG:Pz b r c e (.str s) h=(b c e h).bind (O5 (.inr s) r c e):=(rfl)
theorem qq:O5 key r c e v h=(r c e h).bind (OB key v):=(rfl)
theorem qP:OB key v kvs h= .ok ((key,v)::kvs) h:=(rfl)
theorem Bd(h1:h[n]?=some (.dct []))(h2:kvs.length<=15):IG n kvs h= .ok (.ref n) (h.set n (.dct (bH [] kvs))):=if_pos ⟨h1,h2⟩
theorem qz(h2:kvs.length<=15):IG h.length kvs (h++[.dct []])= .ok (.ref h.length) (h++[.dct (bH [] kvs)]):=by
 rw[Bd aY h2,eY];rfl
end
section
variable{X:Cx}{pg:Tb}{k:Nat}
noncomputable def EV:V->List V->Hp->VK->Prop:=λx vs H Q=> ∃ l b kvs more,x= .ref l/\vs=[.ref b]/\l≠b/\H l=some (.dK kvs)/\H b=some (.dK more)/\kvs.length+more.length<=sizeLine/\Q .non (upd H l (.dK (cK kvs more)))
theorem xR:FK X "dict.update" EV:=by
 intro pins s σ H x vs v us Q I rx rv h;obtain⟨l,b,kvs,more,rfl,rfl,hlb,hH,hB,hz,q⟩:=h;cases rx;obtain⟨u,rfl,ru⟩:=vals1 rv;cases(show u=Value.ref b from ru);obtain⟨z1,n1,vs1,r1,d1⟩:=nG I.bx hH;obtain⟨z2,n2,vs2,r2,d2⟩:=nG I.bx hB;refine call_meetsIn PySem.F.slot_dict_update d1.typeIs PySem.F.entry_dict_update (PySem.F.args_dict_update_2 _ _) (meets_dict_update (aK X.prog X.w) l b hlb n2) ⟨vs1,vs2,d1,d2,by rw[<- r1.length,<- r2.length];exact hz,λh' d' _ sb=>?_⟩;have ln:=dt more kvs;exact⟨.non,_,l7 I (by rw[hH];exact trivial) sb (let ⟨q,_,_,hq,_⟩:=d';⟨q,hq⟩) (oB (by omega) n1 (KV.merge r2 r1) d'),rfl,q⟩
noncomputable def jt:PV->PH->Bool:=λx h=>match x with
 | .ref n=>(match h[n]? with
  | some (.dct _)=>true
  | _=>false)
 | _=>false
theorem xG{ρ :List Addr}{h:PH}{H:Hp}{x:PV}{v:V}(s:dc X.K ρ h H)(r:rel X.K ρ H x v)(e:jt x h=true):Mj X.K "dict" v H:=by
 cases x with
 | ref n =>
  simp only[jt] at e
  split at e
  . rename_i kvs en;rw[rel] at r;obtain⟨a,ea,rfl⟩:=r;obtain⟨kws,e1,_⟩:=s.ob n _ a en ea;exact .inr (.inr (.inl ⟨rfl,.inl ⟨kws,e1⟩⟩))
  . exact nomatch e
 | _=>exact nomatch e
noncomputable def fN:PV->List PV->PH->RV PV:=λx vs h=>match x,vs with
 | .ref n,[.ref m]=>(match h[n]?,h[m]? with
  | some (.dct kvs),some (.dct more)=>if n≠m/\kvs.length+more.length<=sizeLine then .ok .non (h.set n (.dct (bH kvs more))) else .no
  | _,_=> .no)
 | _,_=> .no
theorem Aa:dh X pg k-> ∃ r,FK X "dict.update" r/\Og X.K "dict" r fN jt:=λA=>⟨_,xR,fun ρ h H x x' s r e=>xG s r e,fun ρ h H x x' xs us Q v h' s rx rs q P=>by
 unfold fN at q;split at q
 . rename_i n m;split at q
   . rename_i kvs more en em;split at q
     . rename_i hl;cases q;rw[rel] at rx;obtain⟨a,ea,rfl⟩:=rx;obtain⟨kws,e1,e2⟩:=s.ob n _ a en ea;obtain⟨u,rfl,r⟩:=bG rs;rw[rel] at r;obtain⟨b,eb,rfl⟩:=r;obtain⟨mws,d1,d2⟩:=s.ob m _ b em eb;have hab:a≠b:=λe=>hl.1 (s.nd n m a _ _ en em rfl rfl ea (e ▸ eb));have g:Gr ρ H ρ (upd H a (.dK (cK kws mws))):=Gr.write (.inr ⟨_,e1⟩);exact⟨a,b,kws,mws,rfl,rfl,hab,e1,d1,by rw[<- RK.len e2,<- RK.len d2];exact hl.2,P _ ρ _ g (s.write en ea rfl rfl ⟨_,bc,RK.merge (Paired.eZ g d2) (Paired.eZ g e2)⟩) (by rw[rel])⟩
     . exact nomatch q
   . exact nomatch q
 . exact nomatch q⟩
end
section
variable{h:PH}{n m:Nat}{kvs more:List (Key × PV)}
theorem Ph(e1:h[n]?=some (.dct kvs))(e2:h[m]?=some (.dct more))(hn:n≠m)(hl:kvs.length+more.length<=1000):fN (.ref n) [.ref m] h= .ok .non (h.set n (.dct (bH kvs more))):=by
 have z:kvs.length+more.length<=sizeLine:=Nat.le_trans hl (by decide);simp only[fN,e1,e2,if_pos (And.intro hn z)]
theorem Ll(e1:h[n]?=some (.dct kvs)):jt (.ref n) h=true:=by simp only[jt,e1]
end
section
variable {prog:Program} {w:World} {A:Around} {E:Value->Shared->Prop}
theorem tL {g g':Heap} {l b:Addr} {us:Array Value} (h:g.IsList l us) (ne:l≠b) (sb:Heap.SameBut b g g'):g'.IsList l us :=
 let ⟨o,e1,e2,e3⟩:=h;⟨o,(sb.2 l ne).trans e1,e2,e3⟩
theorem AU {b l : Addr} {us : Array Value} (ne : l ≠ b) : ∀ (n i : Nat) (s : Shared) (R : List Value -> Shared -> Prop), s.heap.IsListIter b l i -> s.heap.IsList l us -> i + n <= us.size ->
    (∀ g, g.IsListIter b l (i + n) -> Heap.SameBut b s.heap g -> R ((us.toList.drop i).take n) { s with heap := g }) -> wpAny (model prog w) A (draw (.ref b) n) R E s := by
  intro n
  induction n with
  | zero => intro i s R h1 _ _ q; exact wpAny_pure (q s.heap h1 (Heap.SameBut.refl _ _))
  | succ n ih =>
    intro i s R h1 h2 hn q
    have hi : i < us.size := by omega
    unfold draw
    refine wpAny_bind (wpAny_pyNext_list_item h1 h2 (x := us[i]) (by simp [hi]) λg g1 gs => ?_)
    refine wpAny_bind (wpAny_holding (ih (i + 1) _ _ g1 (tL h2 ne gs) (by omega) λg' g1' gs' => wpAny_pure ?_))
    have e : us.toList.drop i = us[i] :: us.toList.drop (i + 1) := by rw [List.drop_eq_getElem_cons (by simpa using hi)]; simp
    have r := q g' (by have e2 : i + (n + 1) = i + 1 + n := by omega
                       rw [e2]; exact g1') (gs.trans gs')
    rw [e, List.take_succ_cons] at r
    exact r
theorem vg {env:Env} {es:List Expr} {j:Nat} {pos:Pos} {l:Addr} {us:Array Value} {s:Shared} {R:Unit->Shared->Prop} (hh:A.handled=none) (hl:s.heap.IsList l us) (hn:(assignEach es env).length=us.size) (hst:(assignEach es env).findIdx? (·.1)=none)
  (q: ∀ g,(∀ b o,s.heap.get? b=some o->g.get? b=some o)->wpAny (model prog w) A (assignInOrder ((assignEach es env).map (·.2)) us.toList) R E { s with heap:=g }):wpAny (model prog w) A (assign (.Tuple es j pos) env (.ref l)) R E s:=by
 have ne:l≠s.heap.objs.size:=by obtain⟨o,ho,_⟩:=hl;exact Nat.ne_of_lt (Heap.lt_size ho)
 rw[assign_Tuple];refine wpAny_bind (wpAny_standAt ?_);unfold unpack;rw[hn,hst];refine wpAny_bind ?_;refine wpAny_holding ?_;unfold unpackItems notIterableAtAll;refine wpAny_bind (wpAny_bind (wpAny_specialOf hl.typeIs slot_list_iter.lookup (wpAny_pure ?_)));simp only[if_false,Bool.false_eq_true];refine wpAny_bind ?_;refine wpAny_holding (wpAny_pyIter_list hl ?_);have l1:(s.heap.push { cls:= .type "list_iterator",data:= .fields #[.ref l,.int 0 0] }).IsList l us:=let ⟨o,e1,e2,e3⟩:=hl;⟨o,Heap.get?_push_of_some _ e1,e2,e3⟩
 refine wpAny_bind (wpAny_holding (AU ne us.size 0 _ _ ⟨_,Heap.get?_push_size _ rfl,rfl,rfl⟩ l1 (by omega) λg g1 gs=>?_));have al:(us.toList.drop 0).take us.size=us.toList:=by rw[List.drop_zero,List.take_of_length_le (by simp)]
 rw[al,if_neg (by simp)];refine wpAny_bind (wpAny_holding (wpAny_pyNext_list_end hh g1 (tL l1 ne gs) (by simp) λg' ge=>?_));simp only[if_false,Option.isSome_none,Bool.false_eq_true];refine wpAny_pure (q g' λb o e=>?_);have hb:b≠s.heap.objs.size:=Nat.ne_of_lt (Heap.lt_size e);exact ge b o hb ((gs.2 b hb).trans (Heap.get?_push_of_some _ e))
end
section
variable{X:Cx}{pg:Tb}{k:Nat}{pos:Pos}{es:List Expr}{gs:List PV->ax->PH->RV ax}
noncomputable def Np(K:PySem.W.Frag)(n:Nat)(t:p6):TG:=λv σ H Q=>uO K n t v σ H Q\/ ∃ a xs,v= .ref a/\gi K H a xs/\xs.length=n/\t xs σ H Q
theorem DH{j:Nat}{t:p6}{n:Nat}(hc:X.calm=true)(h:K0 X es t)(hn:(assignEach es X.env).length=n:=by rfl)(hst:(assignEach es X.env).findIdx? (·.1)=none:=by rfl):QG X (.Tuple es j pos) (Np X.K n t):=⟨by
 intro pins s σ H v u Q I r hw;rcases hw with hw | ⟨a,xs,e1,hq,hl,hw⟩
 . exact(zT hc h hn hst).h pins s σ H v u Q I r hw
 . subst e1;cases r;obtain⟨av,rv,pl,hz⟩:=I.list hq;refine vg (I.ok.hd hc) pl.isList (by simp[hn,<- hl,rv.length]) hst λg kp=>?_;have I1:Inv X pins σ H { s with heap:=g }:=I.kept (t':=s.toks) kp;exact h.h pins _ σ H xs _ Q I1 (by simpa using rv) hw⟩
noncomputable def BU(n:Nat)(g:List PV->ax->PH->RV ax):MG:=λv e h=>match v with
 | .ref m=>(match h[m]? with
  | some (.lst xs)=>if xs.length=n then g xs e h else .no
  | _=> .no)
 | v=>gT n g v e h
theorem DN{j:Nat}{n:Nat}(h:KR X pg k es gs)(hn:(assignEach es X.env).length=n:=by rfl)(hst:(assignEach es X.env).findIdx? (·.1)=none:=by rfl):JG X pg k (.Tuple es j pos) (BU n gs):=⟨λA =>
 let ⟨_,q1,s1⟩:=h.h A;⟨_,DH A.calm q1 hn hst,fun ρ h H e σ Q v v' e' h' s r rv q P=>by
 unfold BU at q
 split at q
 . rename_i m;split at q
   . rename_i xs em;split at q
     . rename_i hl;obtain⟨a,vs,rfl,ea,e1,rr⟩:=s.lst em rv;exact .inr ⟨a,vs,rfl,.of e1,by rw[<- rr.len];exact hl,s1 ρ h H e σ Q xs vs e' h' s r rr q P⟩
     . exact nomatch q
   . exact nomatch q
 . unfold gT at q;split at q
   . rename_i xs ex;obtain⟨a,vs,rfl,z,rr⟩:=rel.seq ex rv;split at q
     . rename_i hl;exact .inl ⟨a,vs,rfl,z,by rw[<- rr.len];exact hl,s1 ρ h H e σ Q xs vs e' h' s r rr q P⟩
     . exact nomatch q
   . exact nomatch q⟩⟩
end
section
variable{n m:Nat}{e:ax}{h:PH}{v:PV}{xs:List PV}{gs:List PV->ax->PH->RV ax}
noncomputable def O0(n:Nat)(gs:List PV->ax->PH->RV ax)(e:ax)(h:PH):Option PO->RV ax
 | some (.lst xs)=>if xs.length=n then gs xs e h else .no
 | _=> .no
theorem vS:xl (BU n gs) e v h=(BU n gs v e h).bind EK:=(rfl)
theorem BB : BU n gs (.ref m) e h = O0 n gs e h (h[m]?) := by
  unfold BU O0
  first
    | rfl
    | (simp only; done)
    | (cases h[m]? with
       | none => rfl
       | some o => cases o <;> rfl)
theorem vH {x y:PV}:O0 2 gs e h (some (.lst [x,y]))=gs [x,y] e h:=(rfl)
end
section
variable{α :Type}{p:List α ->Prop}
theorem Qu(h:p []): ∀ us:List α,us.length=0->p us:=λus e=>by rw[List.length_eq_zero_iff.mp e];exact h
theorem N8{n:Nat}(h: ∀ a: α,∀ us:List α,us.length=n->p (a::us)): ∀ us:List α,us.length=n+1->p us:=λus e=>by
 cases us with
 | nil=>simp at e
 | cons a r=>exact h a r (by simpa using e)
theorem K4(h: ∀ a,p [a]): ∀ us:List α,us.length=1->p us:=N8 λa=>Qu (h a)
theorem rN(h: ∀ a b,p [a,b]): ∀ us:List α,us.length=2->p us:=N8 λa=>K4 (h a)
theorem xv(h: ∀ a b c,p [a,b,c]): ∀ us:List α,us.length=3->p us:=N8 λa=>rN (h a)
theorem Of(h: ∀ a b c d,p [a,b,c,d]): ∀ us:List α,us.length=4->p us:=N8 λa=>xv (h a)
end
section
variable{X:Cx}{pg:Tb}{k:Nat}{e iter:Expr}{ma:ME}{mt:MT}{mI:MI}{scope:Scope}{ifs:List Expr}{pos spos py vp wp tp:Pos}{y v w:Str}{i j m n:Nat}
theorem GC.of{K:PySem.W.Frag}(h:Nat.ble n i=true):GC K n (fj i) (gN i):=EJ (Nat.le_of_ble_eq_true h)
theorem IK(hi:JI X pg k (.Name v vp) iter mI)
  (hb: ∀ cl C s₀ H₀ ex pn,(dh X pg k->QG (fI X [v] scope cl C s₀ H₀ ex pn) (.Name v vp) (fj m))/\JF (fI X [v] scope cl C s₀ H₀ ex pn) pg k ifs mt/\JE (fI X [v] scope cl C s₀ H₀ ex pn) pg k e ma)
  (hm:Nat.ble X.N.length m=true:=by rfl) (hkind:scope.kind= .function:=by rfl) (hlc:hV scope.names X.env.scope.names X.N [v]=true:=by rfl) (hs: ∀ x,foldedSetIterable iter X.env x=pure x:=by intro _;rfl) :
  JE X pg k (.ListComp e [⟨.Name v vp,iter,ifs,0⟩] scope pos) (oZ 1 mI (gN m) mt ma):=t7 [v] hkind hlc hi hb (GC.of hm) hs
theorem JK(hi:JI X pg k (.Tuple [.Name v vp,.Name w wp] j tp) iter mI)
  (hb: ∀ cl C s₀ H₀ ex pn,(dh X pg k->QG (fI X [v,w] scope cl C s₀ H₀ ex pn) (.Tuple [.Name v vp,.Name w wp] j tp) (uO X.K 2 (lF (fj m) (lF (fj n) yg))))/\JF (fI X [v,w] scope cl C s₀ H₀ ex pn) pg k ifs mt/\JE (fI X [v,w] scope cl C s₀ H₀ ex pn) pg k e ma)
  (hm:Nat.ble X.N.length m=true:=by rfl) (hn:Nat.ble X.N.length n=true:=by rfl) (hkind:scope.kind= .function:=by rfl) (hlc:hV scope.names X.env.scope.names X.N [v,w]=true:=by rfl) (hs: ∀ x,foldedSetIterable iter X.env x=pure x:=by intro _;rfl) :
  JE X pg k (.ListComp e [⟨.Tuple [.Name v vp,.Name w wp] j tp,iter,ifs,0⟩] scope pos) (oZ 2 mI (gT 2 (aG (gN m) (aG (gN n) dA))) mt ma):=t7 [v,w] hkind hlc hi hb (zQ (ko (GC.of hm) (ko (GC.of hn) vR))) hs
theorem JU(hN:X.N.Nodup)(hi:JI X pg k (.Name v vp) iter mI)
  (hb: ∀ cl C s₀ H₀ ex pn,(dh X pg k->QG (fI X [v] scope cl C s₀ H₀ ex pn) (.Name v vp) (fj m))/\JF (fI X [v] scope cl C s₀ H₀ ex pn) pg k ifs mt/\JE (fI X [v] scope cl C s₀ H₀ ex pn) pg k e ma)
  (hm:Nat.ble X.N.length m=true:=by rfl) (hiy:X.N[i]?=some y:=by rfl) (hy:Loc X.env.scope y:=by first | exact Or.inl rfl | exact Or.inr rfl) (hkind:scope.kind= .function:=by rfl) (hlc:hV scope.names X.env.scope.names X.N [v]=true:=by rfl)
  (hsw:swapsWith (.ListComp e [⟨.Name v vp,iter,ifs,0⟩] scope pos) (some (.Name y py)) spos.line X.env=pure true:=by rfl) (hs: ∀ x,foldedSetIterable iter X.env x=pure x:=by intro _;rfl)
  (hf:X.fn y=true\/X.env.scope.names.lookup y=some .local:=by first | exact .inl rfl | exact .inr rfl | assumption) :
  JS X pg k (.Assign [.Name y py] (.ListComp e [⟨.Name v vp,iter,ifs,0⟩] scope pos) spos) (ak (oZ 1 mI (gN m) mt ma) (gN i)):=sQ [v] i hkind hlc hN hiy hy hi hb (GC.of hm) hsw hs hf
theorem Kn(hN:X.N.Nodup)(hi:JI X pg k (.Tuple [.Name v vp,.Name w wp] j tp) iter mI)
  (hb: ∀ cl C s₀ H₀ ex pn,(dh X pg k->QG (fI X [v,w] scope cl C s₀ H₀ ex pn) (.Tuple [.Name v vp,.Name w wp] j tp) (uO X.K 2 (lF (fj m) (lF (fj n) yg))))/\JF (fI X [v,w] scope cl C s₀ H₀ ex pn) pg k ifs mt/\JE (fI X [v,w] scope cl C s₀ H₀ ex pn) pg k e ma)
  (hm:Nat.ble X.N.length m=true:=by rfl) (hn:Nat.ble X.N.length n=true:=by rfl) (hiy:X.N[i]?=some y:=by rfl) (hy:Loc X.env.scope y:=by first | exact Or.inl rfl | exact Or.inr rfl) (hkind:scope.kind= .function:=by rfl) (hlc:hV scope.names X.env.scope.names X.N [v,w]=true:=by rfl)
  (hsw:swapsWith (.ListComp e [⟨.Tuple [.Name v vp,.Name w wp] j tp,iter,ifs,0⟩] scope pos) (some (.Name y py)) spos.line X.env=pure true:=by rfl) (hs: ∀ x,foldedSetIterable iter X.env x=pure x:=by intro _;rfl)
  (hf:X.fn y=true\/X.env.scope.names.lookup y=some .local:=by first | exact .inl rfl | exact .inr rfl | assumption) :
  JS X pg k (.Assign [.Name y py] (.ListComp e [⟨.Tuple [.Name v vp,.Name w wp] j tp,iter,ifs,0⟩] scope pos) spos) (ak (oZ 2 mI (gT 2 (aG (gN m) (aG (gN n) dA))) mt ma) (gN i)):=sQ [v,w] i hkind hlc hN hiy hy hi hb (zQ (ko (GC.of hm) (ko (GC.of hn) vR))) hsw hs hf
end
end P3
end
section
open PySem PySem.W PyProof.Rows
namespace L2
open PySem PySem.Spec PyProof.Rows
theorem qa{a:Str}: ∀{us:List Value}{ss:List Str},StrsAre us ss-> ∀(i:Nat)(hu:i < us.length)(hs:i < ss.length),isStrOf a us[i]=(ss[i] == a)
 | _,_,.nil,i,hu,_=>absurd hu (Nat.not_lt_zero i)
 | _,_,.cons x t h,0,_,_=>rfl
 | _,_,.cons x t h,i+1,hu,hs=>qa h i (Nat.lt_of_succ_lt_succ hu) (Nat.lt_of_succ_lt_succ hs)
theorem HK{a:Str}{ss:List Str}(h:a∈ss):ss.idxOf a < ss.length:=List.idxOf_lt_length_iff.mpr h
section
variable{X:Cx}
noncomputable def Ce:V->List V->Hp->VK->Prop:=λx vs H Q=> ∃(l:Addr)(ss:List Str)(a:Str),x= .ref l/\vs=[.str a]/\H l=some (.lst (ss.map V.str))/\a∈ss/\Q .non (upd H l (.lst ((ss.map V.str).eraseIdx (ss.idxOf a))))
theorem xn:Qg X "list.remove" Ce:=by
 intro pins s σ H x vs v us Q I rx rv h;obtain⟨l,ss,a,rfl,rfl,hH,ha,q⟩:=h;cases rx;obtain⟨u,rfl,t,rfl⟩:=rv.one;obtain⟨z,av,n,r,hl,e⟩:=I.zo hH;have sa:=jy r;have ln:av.length=ss.length:=by rw[<- hl,List.length_map]
 have hj:=HK ha;refine call_meets F.slot_list_remove ⟨_,e,rfl⟩ F.entry_list_remove (F.args_list_remove_2 _ _)
  (MeetsSeq.list_remove l av.toArray n (.str a t) (isStrOf a) (λy hy=>eq_isStrOf a t sa y (by simpa using hy)) (ss.idxOf a) (by rw[List.size_toArray,ln];exact hj) ?_ ?_ (by rw[List.size_toArray,<- hl];exact z)) ⟨e,?_⟩
 . show isStrOf a (av[ss.idxOf a]'(by rw[ln];exact hj))=true;rw[qa sa _ _ hj,List.getElem_idxOf hj,beq_self_eq_true]
 . intro m hm hlt;have hm':m < ss.length:=by rw[List.size_toArray,ln] at hm;exact hm
   show isStrOf a (av[m]'(by rw[ln];exact hm'))=false;rw[qa sa _ _ hm'];have:=List.not_of_lt_findIdx (p:=(· == a)) (xs:=ss) (i:=m) hlt
   simpa using this
 . refine⟨.non,_,I.Ld (its':=av.eraseIdx (ss.idxOf a)) hH e ?_ (r.eraseIdx _) ?_,rfl,q⟩
   . show av.toArray.eraseIdxIfInBounds (ss.idxOf a)=(av.eraseIdx (ss.idxOf a)).toArray;rw[List.eraseIdxIfInBounds_toArray]
   . have:=pV (ss.map V.str) (ss.idxOf a);omega
end
end L2
namespace P3
open PySem PySem.Spec PyProof.Rows L2
section
variable{X:Cx}{pg:Tb}{k:Nat}
theorem pP{α β :Type}(f: α -> β): ∀(l:List α)(i:Nat),(l.map f).eraseIdx i=(l.eraseIdx i).map f
 | [],i=>by simp
 | a::r,0=>rfl
 | a::r,i+1=>by simp[pP f r i]
noncomputable def xX(ss:List Str)(a:Str):List Str:=ss.eraseIdx (ss.idxOf a)
noncomputable def iR:PV->List PV->PH->RV PV:=λx vs h=>match x,vs with
 | .ref n,[.str a]=>(match h[n]? with
  | some (.lst xs)=>(match fR xs with
   | some ss=>if a∈ss then .ok .non (h.set n (.lst ((xX ss a).map PV.str))) else .no
   | none=> .no)
  | _=> .no)
 | _,_=> .no
theorem zI:dh X pg k-> ∃ r,FK X "list.remove" r/\Og X.K "list" r iR eG:=λA=>⟨_,xn,fun ρ h H x x' s r e=>tT s r e,fun ρ h H x x' xs us Q v h' s rx rs q P=>by
 unfold iR at q;split at q
 . rename_i n a;split at q
   . rename_i ys en;split at q
     . rename_i ss es;split at q
       . rename_i ha;cases q;obtain⟨b,vs,rfl,ea,e1,e2⟩:=s.lst en rx;obtain⟨u,rfl,r⟩:=bG rs;rw[rel] at r;subst r;rw[iy es,c8] at e2;subst e2;have g:Gr ρ H ρ (upd H b (.lst ((ss.map V.str).eraseIdx (ss.idxOf a)))):=Gr.write (.inl ⟨_,e1⟩);refine⟨b,ss,a,rfl,rfl,e1,ha,P _ ρ _ g (s.write en ea rfl rfl ⟨_,bc,?_⟩) (by rw[rel])⟩;rw[c8,xX,pP]
       . exact nomatch q
     . exact nomatch q
   . exact nomatch q
 . exact nomatch q⟩
end
section
variable{h:PH}{n:Nat}{ss:List Str}{a:Str}{y:PV}{r:List PV}
theorem Pj(e:h[n]?=some (.lst (ss.map PV.str)))(ha:a∈ss):iR (.ref n) [.str a] h= .ok .non (h.set n (.lst ((xX ss a).map PV.str))):=by
 simp only[iR,e,dW,if_pos ha]
end
theorem Ap{prog:Program}{w:World}{A:Around}(hh:A.handled=none){it l:Addr}(hne:l≠it)(us:Array Value) :
  Draws prog w A it [it,l] us.size (λi v=>us[i]?=some v) (λi h=>h.IsTupleIter it l i/\h.IsTuple l us) where
 live:=λ_ _ z=>by obtain⟨⟨o,e,_⟩,_⟩:=z;exact⟨o,e⟩
 frame:=λ_ _ _ z kp=>by
  obtain⟨⟨o,e,r⟩,⟨o2,e2,r2⟩⟩:=z;exact⟨⟨o,kp it (by simp) o e,r⟩,⟨o2,kp l (by simp) o2 e2,r2⟩⟩
 item:=λi s Q E hi z q=>gE z.1 z.2 (x:=us[i]) (by simp [hi]) λh' a b=>q _ h' s.toks (by simp [hi]) ⟨a,by obtain ⟨o2,e2,r2⟩:=z.2;exact ⟨o2,b.extBut _ _ hne e2,r2⟩⟩ b
 done:=λs Q E z q=>kN hh z.1 z.2 (by simp) q
noncomputable def PR (K : PySem.W.Frag) (a : Addr) : It :=
  ⟨λi H => ∃ xs x, fe K H a xs /\ xs[i]? = some x,
   λi H v H' => ∃ p x, H p = none /\ v = .ref p /\ H' = upd H p (.tup [.int (i : Int), x]) /\ ∀ xs, fe K H a xs -> xs[i]? = some x,
   λi H => ∃ xs, fe K H a xs /\ xs.length = i⟩
theorem x9 {P:Program} {w:World} {K:PySem.W.Frag} {els:List Expr} {j:Nat} {pos:Pos} {e it a:Addr} (hei:e≠it) (hea:e≠a) (hai:a≠it) :
  Turn P w K (.Tuple els j pos) (PR K a) [e,it] e (λi h=>(∃ old,IsEnum h e it i old)∧h.IsTupleIter it a i) where
 mem:=by simp
 obj:=λi h z b hb=>by
  obtain⟨⟨old,e1⟩,⟨o4,e4,_,d4⟩⟩:=z;simp only[List.not_mem_nil,or_false,List.mem_cons] at hb;rcases hb with rfl | rfl
  . exact⟨_,e1,λv q=>nomatch q⟩
  . exact⟨_,e4,λv q=>by rw[d4] at q;exact nomatch q⟩
 keep:=λi h h' z kp=>by
  obtain⟨⟨old,e1⟩,⟨o4,e4,d4⟩⟩:=z;exact⟨⟨old,kp _ (by simp) _ e1⟩,⟨o4,kp _ (by simp) _ e4,d4⟩⟩
 item:=by
  intro X hP hw hK hc i pins s σ H E I hf z hg;subst hP hw hK;obtain⟨xs,x,s1,ex⟩:=hg;obtain⟨us,ru,pu,_⟩:=I.tuple s1;obtain⟨ux,eu,rx⟩:=ru.get ex;obtain⟨⟨old,e1⟩,hit⟩:=z;have hlt:i < us.toArray.size:=by simpa using(List.getElem?_eq_some_iff.mp eu).1
  refine wpAny_pyNext_enum_itemD (Ap (A:=X.A.in1) (show X.A.in1.handled=none from I.ok.hd hc) hai us.toArray) e1 ⟨hit,pu⟩ hlt hei (by simp[hei,hea]) λy h1 tk f1 f2 f3 f4 f5 f6=>⟨_,rfl,?_⟩
  have hy:y=ux:=by
   have h2:us.toArray[i]?=some ux:=by simpa using eu
   rw[h2] at f1;cases f1;rfl
  subst hy;refine wpAny_letOwnedTupleGo_enum (s:={ s with heap:=h1,toks:=tk+1 }) f2 λh2 g1 g2=>?_;have ex1:=g2.extBut;have elt:e < s.heap.objs.size:=Heap.lt_size e1;have new:h2.get? s.heap.objs.size=some { cls:= .type "tuple",data:= .seq #[.int i tk,y] }:=ex1 _ _ (Nat.ne_of_gt elt) f4;have hn:H s.heap.objs.size=none:=I.bx.fresh (Nat.le_refl _);have I2:Inv X pins σ (upd H s.heap.objs.size (.tup [.int (i:Int),x])) { s with heap:=h2,toks:=tk+1 }:=by
   refine pH (turned:=[e,it]) I (λb o nb q=>?_) (λb hb=>hf b hb) (Nat.le_refl _) ?_
   . simp only[List.mem_cons,List.not_mem_nil,or_false,not_or] at nb;exact ex1 _ _ nb.1 (f6 b o nb.1 nb.2 q)
   . exact⟨by show 2<=sizeLine;decide,[.int i tk,y],.cons ⟨tk,rfl⟩ (.cons rx .nil),_,new,rfl,_,rfl,rfl⟩
  refine⟨.ref s.heap.objs.size,upd H s.heap.objs.size (.tup [.int (i:Int),x]),I2,rfl,⟨_,x,hn,rfl,rfl,λxs' q=>?_⟩,?_,λb hb=>?_⟩
  . rw[I.iK q s1];exact ex
  . obtain⟨⟨o4,e4,c4⟩,_⟩:=f3;exact⟨⟨_,by simpa using g1⟩,⟨o4,ex1 _ _ hei.symm e4,c4⟩⟩
  . have hb0:=(hf b hb).1;have: ∃ o,s.heap.get? b=some o:=by
     obtain⟨o4,e4,_⟩:=hit;simp only[List.not_mem_nil,or_false,List.mem_cons] at hb;rcases hb with rfl | rfl
     . exact⟨_,e1⟩
     . exact⟨_,e4⟩
    obtain⟨o,eo⟩:=this;rw[aB (Nat.ne_of_lt (Heap.lt_size eo))];exact hb0
 done:=by
  intro X hP hw hK hc i pins s σ H E I hf z hg;subst hP hw hK;obtain⟨xs,s1,he⟩:=hg;obtain⟨us,ru,pu,_⟩:=I.tuple s1;obtain⟨⟨old,e1⟩,hit⟩:=z;have ei:i=us.toArray.size:=by have:=ru.length;simp;omega
  rw[ei] at hit;refine wpAny_pyNext_enum_endD (Ap (A:=X.A.in1) (show X.A.in1.handled=none from I.ok.hd hc) hai us.toArray) e1 ⟨hit,pu⟩ λh1 kp=>⟨rfl,BA (turned:=[e,it]) (t':=s.toks) I (λb o nb q=>?_) λb hb=>hf b hb⟩
  simp only[List.mem_cons,List.not_mem_nil,or_false,not_or] at nb;exact kp b o nb.2 q
 self:=λA i s Q E z h=>by
  obtain⟨⟨old,e1⟩,_⟩:=z;exact wpAny_pyIter_enum e1 h
abbrev Ma(h:Heap)(a:Addr):Heap:=Heap.push (Heap.push h (tI a)) { cls:= .type "enumerate",data:= .fields #[.none,.bool false,.ref h.objs.size,rawInt 0,.none,.none] }
theorem rL(a:Addr)(us:Array Value):Meets (Builtin.«enumerate.__new__» ⟨[.type "enumerate",.ref a],[]⟩) (λ_ R u=>u.heap.IsTuple a us/\R (.ok (.ret (.ref (u.heap.objs.size+1)))) { u with heap:=Ma u.heap a }) :=
 .of_wp λprog w A R u hu=>by
  obtain⟨hp,gg,dd,tk,os⟩:=u;obtain⟨ha,hr⟩:=hu;have sub:=sub_enumerate;have fa:Heap.IsTuple (Shared.heap ⟨hp,gg,dd,tk,os⟩) a us:=ha
  wp_walk using wpAny_pyIter_tuple fa
  refine wpAny_stack_any λz=>?_;refine wpAny_pure ?_;have fin1: ∀ v u,v=Value.ref (hp.objs.size+1)->u=(⟨Ma hp a,gg,dd,tk,os⟩:Shared)->R (.ok (.ret v)) u:=λv u e1 e2=>by rw[e1,e2];exact hr
  split
  . rename_i c _ _ _ _ _;cases c == Value.type "enumerate" <;>(wp_walk using wpAny_pyIter_tuple fa;exact⟨_,rfl,fin1 _ _ (by simp[Heap.size_push]) rfl⟩)
  . wp_walk using wpAny_pyIter_tuple fa
    exact⟨_,rfl,fin1 _ _ (by simp[Heap.size_push]) rfl⟩
section
variable{X:Cx}{pg:Tb}{k:Nat}{a:Expr}{ma:ME}{p pos:Pos}{els:List Expr}{j:Nat}{tpos:Pos}
theorem Kh(h:Heap)(l:Addr):(∃ old,IsEnum (Ma h l) (h.objs.size+1) h.objs.size ((0:Nat):Int) old)/\(Ma h l).IsTupleIter h.objs.size l 0:=by
 have n1:(Heap.push h (tI l)).objs.size=h.objs.size+1:=Heap.size_push ..;refine⟨⟨.none,?_⟩,⟨tI l,?_,rfl,rfl⟩⟩
 . rw[<- n1];exact Heap.get?_push_size _ rfl
 . refine Heap.get?_push_of_some _ ?_;exact Heap.get?_push_size _ rfl
noncomputable def Ih(K:PySem.W.Frag)(ta:TA):TI:=fun σ H R=>ta σ H λvs H1=> ∃ a1 xs,vs=[.ref a1]/\fe K H1 a1 xs/\R (PR K a1) H1
theorem ET{ta:TA}(hg:Gl X "enumerate")(hm:X.mg "enumerate" =none)(ha:PA X [a] ta)(hs:starEach [a] X.env=[(false,eval a X.env)]) :
  PI X (.Tuple els j tpos) (.Call (.Name "enumerate" p) [a] [] pos) (Ih X.K ta):=by
 intro pins s σ H R I h;refine Call_ (kQ I hg hm boot_enumerate (PyProof.Rows.callWith_type1 (cQ (ha pos pins s σ H _ I h) λus s1 ⟨vs,H1,I1,r1,a1,xs,e,q1,q⟩=>?_) (by rw[hs];rfl) (by rfl)));subst e;cases r1 with
 | cons ra rr =>
  cases rr
  cases ra
  obtain⟨u1,_,p1,_⟩:=I1.tuple q1
  refine callType_new F.called_enumerate (by decide) (F.typeCall_enumerate_1 _) (F.newCall_enumerate_1 _) (λobj=>F.args_object_init_2 obj _) F.entry_enumerate_new (rL a1 u1.toArray) ⟨p1,?_⟩
  obtain⟨⟨old,Z⟩,W⟩:=Kh s1.heap a1
  have lt1:a1 < s1.heap.objs.size:=by obtain⟨_,e,_⟩:=p1;exact Heap.lt_size e
  refine⟨⟨_,Z,rfl⟩,wpAny_pyIter_enum Z ?_⟩
  have kp: ∀ c o,s1.heap.get? c=some o->(Ma s1.heap a1).get? c=some o:=λc o e=>Heap.get?_push_of_some _ (Heap.get?_push_of_some _ e)
  refine⟨s1.heap.objs.size+1,[s1.heap.objs.size+1,s1.heap.objs.size],_,_,H1,rfl,I1.kept (t':=s1.toks) kp,x9 (Nat.ne_of_gt (Nat.lt_succ_self _)) (Nat.ne_of_gt (Nat.lt_succ_of_lt lt1)) (Nat.ne_of_lt lt1),⟨⟨old,Z⟩,W⟩,λc hc=>?_,q⟩
  have hle:s1.heap.objs.size<=c:=by
   simp only[List.mem_cons,List.not_mem_nil,or_false] at hc;rcases hc with rfl | rfl<;>omega
  exact I1.Ey hle (I1.bx.fresh hle)
noncomputable def yX(a:ME):MI:=λc e h=>(a c e h).bind λx h1=>match x.seq? with
 | some xs=> .ok ⟨none,xs.zipIdx.map λq=> .tup [.int (q.2:Int),q.1]⟩ h1
 | none=> .no
theorem Cb(hg:Gl X "enumerate")(ha:JE X pg k a ma)(hs1:noStar a=true:=by rfl):JI X pg k (.Tuple els j tpos) (.Call (.Name "enumerate" p) [a] [] pos) (yX ma):=⟨λA=>by
 obtain⟨_,q1,s1⟩:=ha.h A;refine⟨_,⟨ET hg (A.blt _ (by decide +kernel)) (qk q1 vd hs1).h (by rw[cx hs1];rfl)⟩,fun ρ h H e σ R it h' s r q P=>?_⟩;obtain⟨x,h1,e1,q⟩:=bind_eq.mp q;refine s1 ρ h H e σ _ x h1 s r e1 λx' ρ1 H1 g1 z1 r1=>?_;split at q
 . rename_i xs ex;cases q;obtain⟨a1,us,rfl,t1,d1⟩:=rel.seq ex r1;refine⟨a1,us,rfl,t1,P ρ1 H1 _ g1 z1 λi ρ3 h3 H3 g s3 _=>⟨λv ev=>?_,λei=>?_⟩⟩
   . rw[List.getElem?_map] at ev;cases ez:xs.zipIdx[i]? with
     | none=>rw[ez] at ev;exact nomatch ev
     | some pr =>
      rw[ez] at ev
      cases ev
      have zx:xs[i]?=some pr.1/\pr.2=i:=by
       rw[List.getElem?_zipIdx] at ez;cases ey:xs[i]? with
       | none=>rw[ey] at ez;exact nomatch ez
       | some y=>rw[ey] at ez;cases ez;exact⟨rfl,by simp⟩
      obtain⟨u,f1,f2⟩:=(aw.gr g _ _ d1).get zx.1
      refine⟨⟨us,u,g.BW t1,f1⟩,?_⟩
      rintro v' H' ⟨p,u',hp,rfl,rfl,k1⟩
      have:=k1 us (g.BW t1)
      rw[f1] at this;cases this
      have gn:Gr ρ3 H3 ρ3 (upd H3 p (.tup [.int (i:Int),u])):=Gr.uS hp
      refine⟨ρ3,gn,s3.tup hp,?_⟩
      rw[rel]
      exact⟨p,_,rfl,bc,aC.mpr ⟨_,_,rfl,by rw[rel,zx.2],aw.one (rel.gr gn _ _ f2)⟩⟩
   . refine⟨us,g.BW t1,?_⟩;have:i=xs.length:=by simpa using ei
     rw[<- d1.len];exact this.symm
 . exact nomatch q⟩
end
section
variable{c:CF}{e:ax}{h:PH}{a:ME}{xs:List PV}
noncomputable def Py(x:PV)(h1:PH):RV hW:=match x.seq? with
 | some xs=> .ok ⟨none,xs.zipIdx.map λq=> .tup [.int (q.2:Int),q.1]⟩ h1
 | none=> .no
theorem vU:yX a c e h=(a c e h).bind Py:=(rfl)
theorem tO:Py (.tup xs) h= .ok ⟨none,xs.zipIdx.map λq=> .tup [.int (q.2:Int),q.1]⟩ h:=(rfl)
end
end P3
end
section
open PySem PySem.W PyProof.Rows
set_option maxHeartbeats 5000000
namespace K11
open PySem L2 P3 PyProof.Rows
noncomputable def top(i:Nat):Stmt:=PySem.Challenge.pw_leastrecord_k11_looks_that_go_so.main.body.getD i (.Pass ⟨0,0,0,0⟩)
noncomputable def eF:List (Key × PV):=[(.inr "let",(.ktup [(.str "pocket"),(.str "sum")])),(.inr "leap",(.ktup [(.str "target"),(.str "sum")])),(.inr "get",(.ktup [(.str "pocket"),(.str "box")])),(.inr "put",(.ktup [(.str "box"),(.str "sum")])),(.inr "take",(.ktup [(.str "lock")])),(.inr "free",(.ktup [(.str "lock")])),(.inr "send",(.ktup [(.str "lane"),(.str "sum")])),(.inr "fetch",(.ktup [(.str "pocket"),(.str "lane")])),(.inr "say",(.ktup [(.str "door"),(.str "sum")])),(.inr "clock",(.ktup [(.str "pocket")])),(.inr "lot",(.ktup [(.str "pocket"),(.str "chances")])),(.inr "hear",(.ktup [(.str "pocket"),(.str "door")]))]
noncomputable def fq:MS :=
  (az (jL (eB cu (aa (ab 0) (aa (eC (.ty "int")) ae))) (y7 (eB cu (aa (ab 0) (aa (eC (.ty "bool")) ae))))))
noncomputable def dz:Df:=⟨["thing"],0,fq⟩
noncomputable def cY:MS :=
  (az (jL (ah "is_whole" (aa (ab 0) ae)) (mW K1 K1 (ab 1) (ab 0) (ab 2))))
noncomputable def cb:Df:=⟨["thing", "least", "most"],0,cY⟩
noncomputable def gH:MS :=
  (az (ah "is_between" (aa (ab 0) (aa (eC (.int 0)) (aa (eC (.int 999)) ae)))))
noncomputable def d6:Df:=⟨["thing"],0,gH⟩
noncomputable def dq:MS :=
  (az (jL (eB cu (aa (ab 0) (aa (eC (.ty "tuple")) ae))) (ag cm (eB bN (aa (ab 0) ae)) (ab 1))))
noncomputable def ck:Df:=⟨["thing", "many"],0,dq⟩
noncomputable def iQ:MS :=
  (ai (ak (ag ar (ab 0) (eC (.int 0))) (gN 2))
  (ai (bt (aq (ag cm (ab 2) (eC (.str "num")))) (az (ag ar (ab 0) (eC (.int 1)))) bA)
  (ai (bt (aq (ag cm (ab 2) (eC (.str "of")))) (az (wK (eB eR (aa (ab 1) ae)) (ag ar (ab 0) (eC (.int 1))) (eC (.int 0)))) bA)
  (ai (ak (ah "worth" (aa (ag ar (ab 0) (eC (.int 1))) (aa (ab 1) ae))) (gN 3))
  (ai (bt (aq (ag cm (ab 2) (eC (.str "not")))) (az (BQ (aq (ag cm (ab 3) (eC (.int 0)))) (eC (.int 1)) (eC (.int 0)))) bA)
  (az (ah "joined_worth" (aa (ab 2) (aa (ab 3) (aa (ah "worth" (aa (ag ar (ab 0) (eC (.int 2))) (aa (ab 1) ae))) ae))))))))))
noncomputable def fO:Df:=⟨["tree", "pockets"],2,iQ⟩
noncomputable def fg:MS :=
  (ai (bt (aq (ag cm (ab 0) (eC (.str "add")))) (az (ag eA (ag aE (ab 1) (ab 2)) (eC (.int 1000)))) bA)
  (ai (bt (aq (ag cm (ab 0) (eC (.str "sub")))) (az (ag eA (ag nX (ab 1) (ab 2)) (eC (.int 1000)))) bA)
  (ai (bt (aq (ag cm (ab 0) (eC (.str "mul")))) (az (ag eA (ag g8 (ab 1) (ab 2)) (eC (.int 1000)))) bA)
  (ai (bt (aq (ag cm (ab 0) (eC (.str "less")))) (az (BQ (aq (ag Br (ab 1) (ab 2))) (eC (.int 1)) (eC (.int 0)))) bA)
  (az (BQ (aq (ag cm (ab 1) (ab 2))) (eC (.int 1)) (eC (.int 0))))))))
noncomputable def cT:Df:=⟨["word", "one", "other"],0,fg⟩
noncomputable def kP:MS :=
  (az (ag ar (ag ar (ag ar (ab 0) (eC (.int 4))) (ab 1)) (eC (.int 1))))
noncomputable def gq:Df:=⟨["program", "hand"],0,kP⟩
noncomputable def mX:MS :=
  (ai (ak (ah "rows_of" (aa (ab 0) (aa (ab 1) ae))) (gN 3))
  (ai (ak (ab 2) (gN 4))
  (ai (gp (dy (aa (eC (.int 200)) ae)) (gN 5) (ai (bt (aq (ah "is_rested" (aa (ab 3) (aa (ab 4) ae)))) (az (ab 4)) bA)
  (ak (ah "behind_own_row" (aa (ag ar (ab 3) (ag ar (ab 4) (eC (.int 0)))) (aa (ab 4) ae))) (gN 4))))
  (ai (bt (aq (ah "is_rested" (aa (ab 3) (aa (ab 4) ae)))) (az (ab 4)) bA)
  (az (aA (aa (eB bN (aa (ab 3) ae)) (aa (ag ar (ab 4) (eC (.int 1))) (aa (ag ar (ab 4) (eC (.int 2))) ae)))))))))
noncomputable def hX:Df:=⟨["program", "hand", "seat"],3,mX⟩
noncomputable def fM:MS :=
  (az (MK (ag cm (ag ar (ab 1) (eC (.int 0))) (eB bN (aa (ab 0) ae))) (y7 (ah "is_own_row" (aa (ag ar (ab 0) (ag ar (ab 1) (eC (.int 0)))) (aa (ag ar (ab 1) (eC (.int 2))) ae))))))
noncomputable def dB:Df:=⟨["rows", "seat"],0,fM⟩
noncomputable def gM:MS :=
  (ai (bt (aq (ag cm (ag ar (ab 0) (eC (.int 0))) (eC (.str "take")))) (az (ag jI (ag ar (ab 0) (eC (.int 1))) (ab 1))) bA)
  (ai (bt (aq (ag cm (ag ar (ab 0) (eC (.int 0))) (eC (.str "free")))) (az (ag kZ (ag ar (ab 0) (eC (.int 1))) (ab 1))) bA)
  (az (MK (ag cm (ag ar (ab 0) (eC (.int 0))) (eC (.str "let"))) (ag cm (ag ar (ab 0) (eC (.int 0))) (eC (.str "leap")))))))
noncomputable def dQ:Df:=⟨["row", "held"],0,gM⟩
noncomputable def cw:MS :=
  (ai (ak (ag aE (ag ar (ab 1) (eC (.int 0))) (eC (.int 1))) (gN 2))
  (ai (bt (aq (ag cm (ag ar (ab 0) (eC (.int 0))) (eC (.str "let")))) (az (aA (aa (ab 2) (aa (ah "laid" (aa (ag ar (ab 1) (eC (.int 1))) (aa (ag ar (ab 0) (eC (.int 1))) (aa (ah "worth" (aa (ag ar (ab 0) (eC (.int 2))) (aa (ag ar (ab 1) (eC (.int 1))) ae))) ae)))) (aa (ag ar (ab 1) (eC (.int 2))) ae))))) bA)
  (ai (bt (kF (aq (ag cm (ag ar (ab 0) (eC (.int 0))) (eC (.str "leap")))) (aq (ag fX (ah "worth" (aa (ag ar (ab 0) (eC (.int 2))) (aa (ag ar (ab 1) (eC (.int 1))) ae))) (eC (.int 0))))) (az (aA (aa (ag ar (ab 0) (eC (.int 1))) (aa (ag ar (ab 1) (eC (.int 1))) (aa (ag ar (ab 1) (eC (.int 2))) ae))))) bA)
  (az (aA (aa (ab 2) (aa (ag ar (ab 1) (eC (.int 1))) (aa (ag ar (ab 1) (eC (.int 2))) ae))))))))
noncomputable def bw:Df:=⟨["row", "seat"],1,cw⟩
noncomputable def ql:MS :=
  (ai (ak (oZ 1 (mK (ab 0)) (gN 4) (aq (ag fX (ag ar (ab 4) (eC (.int 0))) (ab 1))) (ab 4)) (gN 3))
  (ai (bt (aq (ag fX (ab 2) (eC (.int 0)))) (fT (eM cV eG (ab 3) (aa (aA (aa (ab 1) (aa (ab 2) ae))) ae))) bA)
  (az (eB bC (aa (eB br (aa (ab 3) ae)) ae)))))
noncomputable def kH:Df:=⟨["pockets", "name", "value"],1,ql⟩
noncomputable def gD:MS :=
  (ai (ak (ah "rows_of" (aa (ab 0) (aa (ab 1) ae))) (gN 3))
  (ai (bt (aq (ag cm (ag ar (ab 2) (eC (.int 0))) (eB bN (aa (ab 3) ae)))) (az (eC .non)) bA)
  (ai (ak (ag ar (ab 3) (ag ar (ab 2) (eC (.int 0)))) (gN 4))
  (ai (ak (eC (.str "")) (gN 5))
  (ai (ak (eC .non) (gN 6))
  (ai (gp (Kx (AA eF (ag ar (ab 4) (eC (.int 0)))) (jJ (ab 4) (cq (eC (.int 1))) cn)) (gT 2 (aG (gN 7) (aG (gN 8) dA))) (bt (aq (ag cm (ab 7) (eC (.str "sum")))) (ak (ah "worth" (aa (ab 8) (aa (ag ar (ab 2) (eC (.int 1))) ae))) (gN 6)) (bt (aq (ag cm (ab 7) (eC (.str "chances")))) (ak (ab 8) (gN 6)) (bt (aq (ag fX (ab 7) (eC (.str "pocket")))) (ak (ab 8) (gN 5)) bA))))
  (az (aA (aa (ag ar (ab 4) (eC (.int 0))) (aa (ab 5) (aa (ab 6) ae)))))))))))
noncomputable def dX:Df:=⟨["program", "hand", "seat"],6,gD⟩
noncomputable def cI:MS :=
  (ai (ak (ag ar (ah "rows_of" (aa (ab 0) (aa (ab 1) ae))) (ag ar (ab 2) (eC (.int 0)))) (gN 4))
  (ai (ak (ag ar (ab 2) (eC (.int 1))) (gN 5))
  (ai (ak (ag ar (ab 2) (eC (.int 2))) (gN 6))
  (ai (bt (aq (ag jI (ag ar (ab 4) (eC (.int 0))) (eC (.ktup [(.str "get"),(.str "fetch"),(.str "clock"),(.str "lot"),(.str "hear")])))) (ak (ah "laid" (aa (ab 5) (aa (ag ar (ab 4) (eC (.int 1))) (aa (ab 3) ae)))) (gN 5)) (bt (aq (ag cm (ag ar (ab 4) (eC (.int 0))) (eC (.str "take")))) (ak (eB bC (aa (eB br (aa (ag aE (ab 6) (aA (aa (ag ar (ab 4) (eC (.int 1))) ae))) ae)) ae)) (gN 6)) (bt (aq (ag cm (ag ar (ab 4) (eC (.int 0))) (eC (.str "free")))) (ak (eB bC (aa (oZ 1 (mK (ab 6)) (gN 7) (aq (ag fX (ab 7) (ag ar (ab 4) (eC (.int 1))))) (ab 7)) ae)) (gN 6)) bA)))
  (az (ah "rested" (aa (ab 0) (aa (ab 1) (aa (aA (aa (ag aE (ag ar (ab 2) (eC (.int 0))) (eC (.int 1))) (aa (ab 5) (aa (ab 6) ae)))) ae)))))))))
noncomputable def bL:Df:=⟨["program", "hand", "seat", "value"],3,cI⟩
noncomputable def iJ:MS :=
  (ai (ak (ab 2) (gN 4))
  (ai (gp (yX (ab 3)) (gT 2 (aG (gN 5) (aG (gN 6) dA))) (ai (ak (ah "touch_of" (aa (ab 0) (aa (ab 1) (aa (ab 4) ae)))) (gN 7))
  (ai (bt (zW (aq (oH (dO false) (ab 7))) (oP (aq (ah "gives_look" (aa (ab 7) (aa (ab 6) ae)))))) (az (ab 5)) bA)
  (ak (ah "seat_behind" (aa (ab 0) (aa (ab 1) (aa (ab 4) (aa (ag ar (ab 6) (eC (.int 2))) ae))))) (gN 4)))))
  (az (eB bN (aa (ab 3) ae)))))
noncomputable def fc:Df:=⟨["program", "hand", "seat", "things"],4,iJ⟩
noncomputable def aT:MS :=
  (ai (bt (zW (oP (aq (ah "is_tuple_of" (aa (ab 1) (aa (eC (.int 4)) ae))))) (zW (aq (ag fX (ag ar (ab 1) (eC (.int 0))) (ag ar (ab 0) (eC (.int 0))))) (aq (ag fX (ag ar (ab 1) (eC (.int 1))) (ag ar (ab 0) (eC (.int 1))))))) (az (eC (.bl false))) bA)
  (ai (bt (aq (ag jI (ag ar (ab 0) (eC (.int 0))) (eC (.ktup [(.str "get"),(.str "fetch"),(.str "clock"),(.str "lot"),(.str "hear")])))) (az (ah "may_come" (aa (ab 0) (aa (ag ar (ab 1) (eC (.int 2))) ae)))) bA)
  (ai (bt (aq (oH (dO false) (ag ar (ab 0) (eC (.int 2))))) (az (oH (dO false) (ag ar (ab 1) (eC (.int 2))))) bA)
  (az (jL (ah "is_whole" (aa (ag ar (ab 1) (eC (.int 2))) ae)) (ag cm (ag ar (ab 1) (eC (.int 2))) (ag ar (ab 0) (eC (.int 2)))))))))
noncomputable def aO:Df:=⟨["touch", "thing"],0,aT⟩
noncomputable def cU:MS :=
  (az (jL (ah "is_value" (aa (ab 1) ae)) (MK (ag fX (ag ar (ab 0) (eC (.int 0))) (eC (.str "lot"))) (ag Br (ab 1) (ag ar (ab 0) (eC (.int 2)))))))
noncomputable def cg:Df:=⟨["touch", "value"],0,cU⟩
noncomputable def dC:MS :=
  (ai (ak (BQ (aq (ag wk (eB bN (aa (ab 0) ae)) (eC (.int 0)))) (ag ar (ab 0) (ag eA (ab 1) (eB bN (aa (ab 0) ae)))) (eC (.int 0))) (gN 3))
  (ai (ak (ab 3) (gN 4))
  (ai (bt (aq (ag Oz (ab 3) (ag xU (eC (.int 10)) (eC (.int 18))))) (ai (gp (dy (aa (ag eA (ag mR (ab 1) (eB bN (aa (ab 0) ae))) (eC (.int 60))) ae)) (gN 5) (ak (ag mR (ab 4) (eC (.int 1000003))) (gN 4)))
  (bt (aq (ag wk (ab 4) (eC (.int 0)))) (az (ag eA (ag eA (ag mR (ab 4) (eC (.int 2))) (eC (.int 500009))) (ab 2))) bA)) bA)
  (ai (ak (ag aE (ag aE (ag eA (ab 3) (eC (.int 1000003))) (ag g8 (ag g8 (eC (.int 31)) (ab 1)) (ab 1))) (eC (.int 1))) (gN 6))
  (az (ag eA (ag eA (ag g8 (ag eA (ag g8 (ab 6) (eC (.int 48271))) (eC (.int 999983))) (eC (.int 7919))) (eC (.int 524287))) (ab 2)))))))
noncomputable def cz:Df:=⟨["_law_script", "_law_k", "_law_many"],4,dC⟩
noncomputable def ip:MS :=
  (ai (jR i7 (ab 0) (eC (.str "k")) (ag aE (ag ar (ab 0) (eC (.str "k"))) (eC (.int 1))))
  (az (ah "_law_draw" (aa (ag ar (ab 0) (eC (.str "script"))) (aa (ag ar (ab 0) (eC (.str "k"))) (aa (ab 1) ae))))))
noncomputable def er:Df:=⟨["_law_state", "_law_many"],0,ip⟩
noncomputable def gU:MS :=
  (ai (ak (aH (aa (eC (.str "a")) (aa (eC (.str "ab")) (aa (eC (.str "abc")) (aa (eC (.str "lets")) (aa (eC (.str "leaper")) (aa (eC (.str "getit")) (aa (eC (.str "puts")) (aa (eC (.str "taken")) (aa (eC (.str "freed")) (aa (eC (.str "sender")) (aa (eC (.str "fetched")) (aa (eC (.str "says")) ae))))))))))))) (gN 1))
  (ai (ak (ag aE (ab 1) (aH (aa (eC (.str "clocks")) (aa (eC (.str "lots")) (aa (eC (.str "hearth")) (aa (eC (.str "added")) (aa (eC (.str "subway")) (aa (eC (.str "mulled")) (aa (eC (.str "lesser")) (aa (eC (.str "samey")) (aa (eC (.str "nothing")) ae))))))))))) (gN 1))
  (ai (ak (ag aE (ab 1) (aH (aa (eC (.str "boxes")) (aa (eC (.str "locker")) (aa (eC (.str "lanes")) (aa (eC (.str "doors")) (aa (eC (.str "hands")) (aa (eC (.str "b")) (aa (eC (.str "zzzzzzzz")) (aa (eC (.str "of")) (aa (eC (.str "num")) ae))))))))))) (gN 1))
  (ai (ak (ah "_law_pick" (aa (ab 0) (aa (eB bN (aa (ab 1) ae)) ae))) (gN 2))
  (az (ag aE (jJ (ab 1) (cq (ab 2)) cn) (jJ (ab 1) cn (cq (ab 2)))))))))
noncomputable def dM:Df:=⟨["_law_state"],2,gU⟩
noncomputable def bK:MS :=
  (ai (ak (ah "_law_pick" (aa (ab 0) (aa (eC (.int 9)) ae))) (gN 3))
  (ai (bt (kF (aq (ag Br (ab 2) (eC (.int 5)))) (kF (aq (ag wk (ab 3) (eC (.int 2)))) (aq (ag wk (ag ar (ab 0) (eC (.str "left"))) (eC (.int 1)))))) (ai (jR i7 (ab 0) (eC (.str "left")) (ag nX (ag ar (ab 0) (eC (.str "left"))) (eC (.int 2))))
  (ai (ak (ag ar (aH (aa (eC (.str "add")) (aa (eC (.str "sub")) (aa (eC (.str "mul")) (aa (eC (.str "less")) (aa (eC (.str "same")) ae)))))) (ah "_law_pick" (aa (ab 0) (aa (eC (.int 5)) ae)))) (gN 4))
  (ai (ak (ah "_law_sum_in" (aa (ab 0) (aa (ab 1) (aa (ag aE (ab 2) (eC (.int 1))) ae)))) (gN 5))
  (az (aA (aa (ab 4) (aa (ab 5) (aa (ah "_law_sum_in" (aa (ab 0) (aa (ab 1) (aa (ag aE (ab 2) (eC (.int 1))) ae)))) ae)))))))) bA)
  (ai (bt (kF (aq (ag Br (ab 2) (eC (.int 5)))) (kF (aq (ag cm (ab 3) (eC (.int 2)))) (aq (ag wk (ag ar (ab 0) (eC (.str "left"))) (eC (.int 0)))))) (ai (jR i7 (ab 0) (eC (.str "left")) (ag nX (ag ar (ab 0) (eC (.str "left"))) (eC (.int 1))))
  (az (aA (aa (eC (.str "not")) (aa (ah "_law_sum_in" (aa (ab 0) (aa (ab 1) (aa (ag aE (ab 2) (eC (.int 1))) ae)))) ae))))) bA)
  (ai (bt (aq (ag cm (ag eA (ab 3) (eC (.int 2))) (eC (.int 0)))) (az (aA (aa (eC (.str "num")) (aa (ag ar (aH (aa (eC (.int 0)) (aa (eC (.int 1)) (aa (eC (.int 2)) (aa (eC (.int 999)) (aa (ah "_law_pick" (aa (ab 0) (aa (eC (.int 1000)) ae))) ae)))))) (ah "_law_pick" (aa (ab 0) (aa (eC (.int 5)) ae)))) ae)))) bA)
  (az (aA (aa (eC (.str "of")) (aa (ag ar (ab 1) (ah "_law_pick" (aa (ab 0) (aa (eB bN (aa (ab 1) ae)) ae)))) ae))))))))
noncomputable def bh:Df:=⟨["_law_state", "_law_pockets", "_law_deep"],3,bK⟩
noncomputable def jr:MS :=
  (ai (jR i7 (ab 0) (eC (.str "left")) (ag ar (aH (aa (eC (.int 0)) (aa (eC (.int 2)) (aa (eC (.int 5)) (aa (eC (.int 11)) ae))))) (ah "_law_pick" (aa (ab 0) (aa (eC (.int 4)) ae)))))
  (az (ah "_law_sum_in" (aa (ab 0) (aa (ab 1) (aa (eC (.int 1)) ae))))))
noncomputable def fz:Df:=⟨["_law_state", "_law_pockets"],0,jr⟩
noncomputable def ju:MS :=
  (ai (ak (aH (aa (eC (.str "let")) (aa (eC (.str "let")) (aa (eC (.str "leap")) (aa (eC (.str "clock")) (aa (eC (.str "lot")) ae)))))) (gN 4))
  (ai (gp (mK (aH (aa (aA (aa (eC (.str "box")) (aa (aH (aa (eC (.str "get")) (aa (eC (.str "put")) ae))) ae))) (aa (aA (aa (eC (.str "lock")) (aa (aH (aa (eC (.str "take")) (aa (eC (.str "free")) ae))) ae))) (aa (aA (aa (eC (.str "lane")) (aa (aH (aa (eC (.str "send")) (aa (eC (.str "fetch")) ae))) ae))) ae))))) (gT 2 (aG (gN 5) (aG (gN 6) dA))) (bt (aq (ag fX (ag ar (ab 1) (ab 5)) (aH ae))) (ak (ag aE (ag aE (ab 4) (ab 6)) (ab 6)) (gN 4)) bA))
  (ai (bt (aq (ag fX (ag ar (ab 1) (eC (.str "door"))) (aH ae))) (ak (ag aE (ab 4) (aH (aa (eC (.str "say")) (aa (eC (.str "hear")) (aa (eC (.str "say")) ae))))) (gN 4)) bA)
  (ai (ak (ag ar (ab 4) (ah "_law_pick" (aa (ab 0) (aa (eB bN (aa (ab 4) ae)) ae)))) (gN 7))
  (ai (ak (ag ar (ab 2) (ah "_law_pick" (aa (ab 0) (aa (eB bN (aa (ab 2) ae)) ae)))) (gN 8))
  (ai (ak (pO (fD (eC (.str "get")) (eC (.str "box")) (fD (eC (.str "put")) (eC (.str "box")) (fD (eC (.str "take")) (eC (.str "lock")) (fD (eC (.str "free")) (eC (.str "lock")) (fD (eC (.str "send")) (eC (.str "lane")) (fD (eC (.str "fetch")) (eC (.str "lane")) xg))))))) (gN 9))
  (ai (fT (eM fN jt (ab 9) (aa (pO (fD (eC (.str "say")) (eC (.str "door")) (fD (eC (.str "hear")) (eC (.str "door")) xg))) ae)))
  (ai (bt (aq (ag cm (ab 7) (eC (.str "let")))) (az (aA (aa (eC (.str "let")) (aa (ab 8) (aa (ah "_law_sum" (aa (ab 0) (aa (ab 2) ae))) ae))))) bA)
  (ai (bt (aq (ag cm (ab 7) (eC (.str "leap")))) (az (aA (aa (eC (.str "leap")) (aa (ah "_law_pick" (aa (ab 0) (aa (ag aE (ab 3) (eC (.int 1))) ae))) (aa (ah "_law_sum" (aa (ab 0) (aa (ab 2) ae))) ae))))) bA)
  (ai (bt (aq (ag cm (ab 7) (eC (.str "clock")))) (az (aA (aa (eC (.str "clock")) (aa (ab 8) ae)))) bA)
  (ai (bt (aq (ag cm (ab 7) (eC (.str "lot")))) (az (aA (aa (eC (.str "lot")) (aa (ab 8) (aa (ag ar (aH (aa (eC (.int 2)) (aa (eC (.int 3)) (aa (eC (.int 1000)) (aa (ag aE (eC (.int 2)) (ah "_law_pick" (aa (ab 0) (aa (eC (.int 999)) ae)))) ae))))) (ah "_law_pick" (aa (ab 0) (aa (eC (.int 4)) ae)))) ae))))) bA)
  (ai (ak (ag ar (ab 1) (ag ar (ab 9) (ab 7))) (gN 6))
  (ai (ak (ag ar (ab 6) (ah "_law_pick" (aa (ab 0) (aa (eB bN (aa (ab 6) ae)) ae)))) (gN 10))
  (ai (bt (aq (ag jI (ab 7) (aA (aa (eC (.str "take")) (aa (eC (.str "free")) ae))))) (az (aA (aa (ab 7) (aa (ab 10) ae)))) bA)
  (ai (bt (aq (ag jI (ab 7) (aA (aa (eC (.str "get")) (aa (eC (.str "fetch")) (aa (eC (.str "hear")) ae)))))) (az (aA (aa (ab 7) (aa (ab 8) (aa (ab 10) ae))))) bA)
  (az (aA (aa (ab 7) (aa (ab 10) (aa (ah "_law_sum" (aa (ab 0) (aa (ab 2) ae))) ae))))))))))))))))))))
noncomputable def fB:Df:=⟨["_law_state", "_law_named", "_law_pockets", "_law_many"],7,ju⟩
noncomputable def fA:MS :=
  (ai (ak (ah "_law_names" (aa (ab 0) ae)) (gN 1))
  (ai (ak jn (gN 2))
  (ai (gp (mK (aH (aa (eC (.str "box")) (aa (eC (.str "lock")) (aa (eC (.str "lane")) (aa (eC (.str "door")) (aa (eC (.str "hand")) ae))))))) (gN 3) (ai (ak (ah "_law_pick" (aa (ab 0) (aa (eC (.int 5)) ae))) (gN 4))
  (ai (bt (aq (ag cm (ab 3) (eC (.str "hand")))) (ak (ag aE (eC (.int 1)) (ag eA (ab 4) (eC (.int 4)))) (gN 4)) bA)
  (ai (jR i7 (ab 2) (ab 3) (jJ (ab 1) cn (cq (ab 4))))
  (ak (jJ (ab 1) (cq (ab 4)) cn) (gN 1))))))
  (ai (ak (ag aE (ag aE (ag aE (jJ (ab 1) cn (cq (eC (.int 2)))) (jJ (ag ar (ab 2) (eC (.str "box"))) cn (cq (eC (.int 1))))) (jJ (ag ar (ab 2) (eC (.str "hand"))) cn (cq (eC (.int 1))))) (aH (aa (ag ar (aH (aa (eC (.str "a")) (aa (eC (.str "ab")) (aa (eC (.str "boxes")) ae)))) (ah "_law_pick" (aa (ab 0) (aa (eC (.int 3)) ae)))) ae))) (gN 5))
  (ai (ak (aH ae) (gN 6))
  (ai (gp (mK (ag ar (ab 2) (eC (.str "hand")))) (gN 7) (ai (ak (ag ar (aH (aa (ah "_law_pick" (aa (ab 0) (aa (eC (.int 4)) ae))) (aa (ag aE (eC (.int 3)) (ah "_law_pick" (aa (ab 0) (aa (eC (.int 6)) ae)))) (aa (ag aE (eC (.int 3)) (ah "_law_pick" (aa (ab 0) (aa (eC (.int 6)) ae)))) (aa (eC (.int 30)) ae))))) (ah "_law_pick" (aa (ab 0) (aa (eC (.int 4)) ae)))) (gN 4))
  (fT (eM cV eG (ab 6) (aa (aA (aa (ab 7) (aa (eB bC (aa (oZ 1 (dy (aa (ab 4) ae)) (gN 9) fm (ah "_law_row" (aa (ab 0) (aa (ab 2) (aa (ab 5) (aa (ab 4) ae)))))) ae)) ae))) ae)))))
  (ai (ak (eB bC (aa (oZ 1 (mK (ag ar (ab 2) (eC (.str "box")))) (gN 9) fm (aA (aa (ab 9) (aa (ag ar (aH (aa (eC (.int 0)) (aa (eC (.int 1)) (aa (eC (.int 999)) (aa (ah "_law_pick" (aa (ab 0) (aa (eC (.int 1000)) ae))) ae))))) (ah "_law_pick" (aa (ab 0) (aa (eC (.int 4)) ae)))) ae)))) ae)) (gN 8))
  (az (aA (aa (ab 8) (aa (eB bC (aa (ag ar (ab 2) (eC (.str "lock"))) ae)) (aa (eB bC (aa (ag ar (ab 2) (eC (.str "lane"))) ae)) (aa (eB bC (aa (ag ar (ab 2) (eC (.str "door"))) ae)) (aa (eB bC (aa (ab 6) ae)) ae))))))))))))))
noncomputable def cR:Df:=⟨["_law_state"],8,fA⟩
noncomputable def cE:MS :=
  (ai (bt (aq (ag cm (ag ar (ab 0) (eC (.int 0))) (eC (.str "num")))) (az (ag ar (ab 0) (eC (.int 1)))) bA)
  (ai (bt (aq (ag cm (ag ar (ab 0) (eC (.int 0))) (eC (.str "of")))) (az (wK (ab 1) (ag ar (ab 0) (eC (.int 1))) (eC (.int 0)))) bA)
  (ai (ak (oZ 1 (mK (jJ (ab 0) (cq (eC (.int 1))) cn)) (gN 6) fm (ah "_law_worth" (aa (ab 6) (aa (ab 1) ae)))) (gN 2))
  (ai (bt (aq (ag cm (ag ar (ab 0) (eC (.int 0))) (eC (.str "not")))) (az (BQ (aq (ag cm (ag ar (ab 2) (eC (.int 0))) (eC (.int 0)))) (eC (.int 1)) (eC (.int 0)))) bA)
  (ai (ak (ab 2) (BU 2 (aG (gN 3) (aG (gN 4) dA))))
  (ai (ak (pO (fD (eC (.str "add")) (ag eA (ag aE (ab 3) (ab 4)) (eC (.int 1000))) (fD (eC (.str "sub")) (ag eA (ag nX (ab 3) (ab 4)) (eC (.int 1000))) (fD (eC (.str "mul")) (ag eA (ag g8 (ab 3) (ab 4)) (eC (.int 1000))) xg)))) (gN 5))
  (ai (jR i7 (ab 5) (eC (.str "less")) (BQ (aq (ag Br (ab 3) (ab 4))) (eC (.int 1)) (eC (.int 0))))
  (ai (jR i7 (ab 5) (eC (.str "same")) (BQ (aq (ag cm (ab 3) (ab 4))) (eC (.int 1)) (eC (.int 0))))
  (az (ag ar (ab 5) (ag ar (ab 0) (eC (.int 0)))))))))))))
noncomputable def bJ:Df:=⟨["_law_thing", "_law_pockets"],4,cE⟩
noncomputable def bQ:MS :=
  (ai (bt (aq (ag cm (ab 1) (eB bN (aa (ab 0) ae)))) (az (eC .non)) bA)
  (ai (ak (ag ar (ab 0) (ab 1)) (gN 4))
  (ai (bt (aq (ag cm (ag ar (ab 4) (eC (.int 0))) (eC (.str "let")))) (ai (jR i7 (ab 2) (ag ar (ab 4) (eC (.int 1))) (ah "_law_worth" (aa (ag ar (ab 4) (eC (.int 2))) (aa (ab 2) ae))))
  (az (ag aE (ab 1) (eC (.int 1))))) bA)
  (ai (bt (aq (ag cm (ag ar (ab 4) (eC (.int 0))) (eC (.str "leap")))) (az (BQ (aq (ag wk (ah "_law_worth" (aa (ag ar (ab 4) (eC (.int 2))) (aa (ab 2) ae))) (eC (.int 0)))) (ag ar (ab 4) (eC (.int 1))) (ag aE (ab 1) (eC (.int 1))))) bA)
  (ai (bt (kF (aq (ag cm (ag ar (ab 4) (eC (.int 0))) (eC (.str "take")))) (aq (ag jI (ag ar (ab 4) (eC (.int 1))) (ab 3)))) (az (ag aE (ab 1) (eC (.int 1)))) bA)
  (ai (bt (kF (aq (ag cm (ag ar (ab 4) (eC (.int 0))) (eC (.str "free")))) (aq (ag kZ (ag ar (ab 4) (eC (.int 1))) (ab 3)))) (az (ag aE (ab 1) (eC (.int 1)))) bA)
  (az (eC .non))))))))
noncomputable def bu:Df:=⟨["_law_rows", "_law_at", "_law_pockets", "_law_held"],1,bQ⟩
noncomputable def jd:MS :=
  (ai (ak (eB eR (aa (ag ar (ab 1) (eC (.int 1))) ae)) (gN 2))
  (ai (ak (ag ar (ab 1) (eC (.int 0))) (gN 3))
  (ai (ak (eC (.int 0)) (gN 4))
  (ai (ak (ah "_law_own" (aa (ab 0) (aa (ab 3) (aa (ab 2) (aa (ag ar (ab 1) (eC (.int 2))) ae))))) (gN 5))
  (ai (qy (aq (oH (dO true) (ab 5))) (ai (ak (ab 5) (gN 3))
  (ai (ak (ag aE (ab 4) (eC (.int 1))) (gN 4))
  (ai (ak (eB eR (aa (ab 2) ae)) (gN 6))
  (ai (ak (ah "_law_own" (aa (ab 0) (aa (ab 3) (aa (ab 2) (aa (ag ar (ab 1) (eC (.int 2))) ae))))) (gN 5))
  (bt (kF (aq (ag cm (ab 4) (eC (.int 200)))) (aq (oH (dO true) (ab 5)))) (ai (ak (ab 6) (gN 2))
  (ai (ak (eB bN (aa (ab 0) ae)) (gN 3))
  (ak (eC .non) (gN 5)))) bA))))))
  (az (aA (aa (ab 3) (aa (eB bC (aa (oZ 1 (mK (eB br (aa (ab 2) ae))) (gN 7) (aq (ag wk (ag ar (ab 2) (ab 7)) (eC (.int 0)))) (aA (aa (ab 7) (aa (ag ar (ab 2) (ab 7)) ae)))) ae)) (aa (ag ar (ab 1) (eC (.int 2))) ae))))))))))
noncomputable def ef:Df:=⟨["_law_rows", "_law_seat_here"],5,jd⟩
noncomputable def cF:MS :=
  (ai (bt (aq (ag cm (ag ar (ab 1) (eC (.int 0))) (eB bN (aa (ab 0) ae)))) (az (eC .non)) bA)
  (ai (ak (ag ar (ab 0) (ag ar (ab 1) (eC (.int 0)))) (gN 2))
  (ai (bt (aq (ag jI (ag ar (ab 2) (eC (.int 0))) (aA (aa (eC (.str "put")) (aa (eC (.str "send")) (aa (eC (.str "say")) ae)))))) (az (aA (aa (ag ar (ab 2) (eC (.int 0))) (aa (ag ar (ab 2) (eC (.int 1))) (aa (ah "_law_worth" (aa (ag ar (ab 2) (eC (.int 2))) (aa (eB eR (aa (ag ar (ab 1) (eC (.int 1))) ae)) ae))) ae))))) bA)
  (ai (bt (aq (ag cm (ag ar (ab 2) (eC (.int 0))) (eC (.str "lot")))) (az (aA (aa (eC (.str "lot")) (aa (eC (.str "")) (aa (ag ar (ab 2) (eC (.int 2))) ae))))) bA)
  (ai (bt (aq (ag cm (ag ar (ab 2) (eC (.int 0))) (eC (.str "clock")))) (az (aA (aa (eC (.str "clock")) (aa (eC (.str "")) (aa (eC .non) ae))))) bA)
  (az (aA (aa (ag ar (ab 2) (eC (.int 0))) (aa (ag ar (ab 2) (ag nX (eB bN (aa (ab 2) ae)) (eC (.int 1)))) (aa (eC .non) ae))))))))))
noncomputable def bI:Df:=⟨["_law_rows", "_law_seat_here"],1,cF⟩
noncomputable def jb:MS :=
  (ai (ak (ag ar (ab 0) (ag ar (ab 1) (eC (.int 0)))) (gN 3))
  (ai (ak (eB eR (aa (ag ar (ab 1) (eC (.int 1))) ae)) (gN 4))
  (ai (ak (eB sv (aa (ag ar (ab 1) (eC (.int 2))) ae)) (gN 5))
  (ai (bt (aq (ag jI (ag ar (ab 3) (eC (.int 0))) (aA (aa (eC (.str "get")) (aa (eC (.str "fetch")) (aa (eC (.str "clock")) (aa (eC (.str "lot")) (aa (eC (.str "hear")) ae)))))))) (jR i7 (ab 4) (ag ar (ab 3) (eC (.int 1))) (ab 2)) bA)
  (ai (bt (aq (ag cm (ag ar (ab 3) (eC (.int 0))) (eC (.str "take")))) (fT (eM cV eG (ab 5) (aa (ag ar (ab 3) (eC (.int 1))) ae))) bA)
  (ai (bt (aq (ag cm (ag ar (ab 3) (eC (.int 0))) (eC (.str "free")))) (fT (eM iR eG (ab 5) (aa (ag ar (ab 3) (eC (.int 1))) ae))) bA)
  (ai (ak (eB bC (aa (oZ 1 (mK (eB br (aa (ab 4) ae))) (gN 7) (aq (ag wk (ag ar (ab 4) (ab 7)) (eC (.int 0)))) (aA (aa (ab 7) (aa (ag ar (ab 4) (ab 7)) ae)))) ae)) (gN 6))
  (az (ah "_law_rested" (aa (ab 0) (aa (aA (aa (ag aE (ag ar (ab 1) (eC (.int 0))) (eC (.int 1))) (aa (ab 6) (aa (eB bC (aa (eB br (aa (ab 5) ae)) ae)) ae)))) ae)))))))))))
noncomputable def cJ:Df:=⟨["_law_rows", "_law_seat_here", "_law_value_here"],4,jb⟩
noncomputable def dN:MS :=
  (ai (bt (aq (ag cm (ag ar (ab 1) (eC (.int 0))) (eC (.str "lot")))) (az (ag ar (aH (aa (eC (.int 0)) (aa (ag nX (ag ar (ab 1) (eC (.int 2))) (eC (.int 1))) (aa (ah "_law_pick" (aa (ab 0) (aa (ag ar (ab 1) (eC (.int 2))) ae))) ae)))) (ah "_law_pick" (aa (ab 0) (aa (eC (.int 3)) ae))))) bA)
  (ai (bt (aq (ag jI (ag ar (ab 1) (eC (.int 0))) (aA (aa (eC (.str "get")) (aa (eC (.str "fetch")) (aa (eC (.str "clock")) (aa (eC (.str "hear")) ae))))))) (az (ag ar (aH (aa (eC (.int 0)) (aa (eC (.int 1)) (aa (eC (.int 999)) (aa (ah "_law_pick" (aa (ab 0) (aa (eC (.int 1000)) ae))) ae))))) (ah "_law_pick" (aa (ab 0) (aa (eC (.int 4)) ae))))) bA)
  (az (eC .non))))
noncomputable def cC:Df:=⟨["_law_state", "_law_touch_here"],0,dN⟩
noncomputable def iw:MS :=
  (ai (ak (ag ar (ag ar (ag ar (ab 1) (eC (.int 4))) (ab 2)) (eC (.int 1))) (gN 3))
  (ai (ak (eB br (aa (aH (aa (eC (.str "a")) (aa (eC (.str "ab")) (aa (eC (.str "boxes")) (aa (eC (.str "b")) (aa (eC (.str "lets")) ae)))))) ae)) (gN 4))
  (ai (ak (eB bC (aa (oZ 1 (mK (ab 4)) (gN 7) (aq (ag cm (ah "_law_pick" (aa (ab 0) (aa (eC (.int 3)) ae))) (eC (.int 0)))) (aA (aa (ab 7) (aa (ag aE (eC (.int 1)) (ah "_law_pick" (aa (ab 0) (aa (eC (.int 999)) ae)))) ae)))) ae)) (gN 5))
  (ai (ak (eB bC (aa (eB br (aa (oZ 1 (mK (ag ar (ab 1) (eC (.int 1)))) (gN 7) (aq (ag cm (ah "_law_pick" (aa (ab 0) (aa (eC (.int 2)) ae))) (eC (.int 0)))) (ab 7)) ae)) ae)) (gN 6))
  (az (aA (aa (ah "_law_pick" (aa (ab 0) (aa (ag aE (eB bN (aa (ab 3) ae)) (eC (.int 1))) ae))) (aa (ab 5) (aa (ab 6) ae)))))))))
noncomputable def eI:Df:=⟨["_law_state", "_law_program_here", "_law_hand"],4,iw⟩
noncomputable def bX:MS :=
  (ai (bt (aq (eB cu (aa (ab 1) (aa (aA (aa (eC (.ty "tuple")) (aa (eC (.ty "list")) ae))) ae)))) (ai (bt (zW (aq (ag fX (eB cu (aa (ab 0) (aa (eC (.ty "tuple")) ae))) (eB cu (aa (ab 1) (aa (eC (.ty "tuple")) ae))))) (aq (ag fX (eB cu (aa (ab 0) (aa (eC (.ty "list")) ae))) (eB cu (aa (ab 1) (aa (eC (.ty "list")) ae)))))) (az (eC (.bl false))) bA)
  (az (jL (ag cm (eB bN (aa (ab 0) ae)) (eB bN (aa (ab 1) ae))) (eB Lc (aa (oZ 1 (dy (aa (eB bN (aa (ab 1) ae)) ae)) (gN 2) fm (ah "_law_same" (aa (ag ar (ab 0) (ab 2)) (aa (ag ar (ab 1) (ab 2)) ae)))) ae))))) bA)
  (ai (bt (aq (oH (dO false) (ab 1))) (az (oH (dO false) (ab 0))) bA)
  (ai (bt (zW (aq (eB cu (aa (ab 1) (aa (eC (.ty "bool")) ae)))) (aq (eB cu (aa (ab 0) (aa (eC (.ty "bool")) ae))))) (az (jL (eB cu (aa (ab 1) (aa (eC (.ty "bool")) ae))) (jL (eB cu (aa (ab 0) (aa (eC (.ty "bool")) ae))) (ag cm (ab 0) (ab 1))))) bA)
  (ai (bt (aq (eB cu (aa (ab 1) (aa (eC (.ty "int")) ae)))) (az (jL (eB cu (aa (ab 0) (aa (eC (.ty "int")) ae))) (ag cm (ab 0) (ab 1)))) bA)
  (az (jL (eB cu (aa (ab 0) (aa (eC (.ty "str")) ae))) (ag cm (ab 0) (ab 1))))))))
noncomputable def bB:Df:=⟨["_law_found", "_law_due"],0,bX⟩
noncomputable def cX:MS :=
  (az (jL (eB cu (aa (ab 0) (aa (eC (.ty "int")) ae))) (jL (y7 (eB cu (aa (ab 0) (aa (eC (.ty "bool")) ae)))) (mW K1 K1 (ab 1) (ab 0) (ab 2)))))
noncomputable def bZ:Df:=⟨["_law_thing", "_law_least", "_law_most"],0,cX⟩
noncomputable def aS:MS :=
  (ai (bt (zW (aq (oH (dO false) (ab 0))) (zW (oP (aq (eB cu (aa (ab 1) (aa (eC (.ty "tuple")) ae))))) (aq (ag fX (eB bN (aa (ab 1) ae)) (eC (.int 4)))))) (az (eC (.bl false))) bA)
  (ai (bt (zW (oP (aq (ah "_law_same" (aa (ag ar (ab 1) (eC (.int 0))) (aa (ag ar (ab 0) (eC (.int 0))) ae))))) (oP (aq (ah "_law_same" (aa (ag ar (ab 1) (eC (.int 1))) (aa (ag ar (ab 0) (eC (.int 1))) ae)))))) (az (eC (.bl false))) bA)
  (ai (bt (aq (ag jI (ag ar (ab 0) (eC (.int 0))) (aA (aa (eC (.str "take")) (aa (eC (.str "free")) ae))))) (az (oH (dO false) (ag ar (ab 1) (eC (.int 2))))) bA)
  (ai (bt (aq (ag jI (ag ar (ab 0) (eC (.int 0))) (aA (aa (eC (.str "put")) (aa (eC (.str "send")) (aa (eC (.str "say")) ae)))))) (az (ah "_law_same" (aa (ag ar (ab 1) (eC (.int 2))) (aa (ag ar (ab 0) (eC (.int 2))) ae)))) bA)
  (az (ah "_law_whole" (aa (ag ar (ab 1) (eC (.int 2))) (aa (eC (.int 0)) (aa (BQ (aq (ag cm (ag ar (ab 0) (eC (.int 0))) (eC (.str "lot")))) (ag nX (ag ar (ab 0) (eC (.int 2))) (eC (.int 1))) (eC (.int 999))) ae)))))))))
noncomputable def aM:Df:=⟨["_law_touch_here", "_law_thing"],0,aS⟩
noncomputable def iz:MS :=
  (ai (ak (eC (.int 0)) (gN 3))
  (ai (ak (ah "_law_touch" (aa (ab 0) (aa (ab 1) ae))) (gN 4))
  (ai (qy (kF (aq (ag Br (ab 3) (eB bN (aa (ab 2) ae)))) (aq (ah "_law_is_look" (aa (ab 4) (aa (ag ar (ab 2) (ab 3)) ae))))) (ai (ak (ah "_law_behind" (aa (ab 0) (aa (ab 1) (aa (ag ar (ag ar (ab 2) (ab 3)) (eC (.int 2))) ae)))) (gN 1))
  (ai (ak (ah "_law_touch" (aa (ab 0) (aa (ab 1) ae))) (gN 4))
  (ak (ag aE (ab 3) (eC (.int 1))) (gN 3)))))
  (az (ab 3)))))
noncomputable def eK:Df:=⟨["_law_rows", "_law_seat_here", "_law_things"],2,iz⟩
noncomputable def eU:MS :=
  (ai (ak (aH ae) (gN 3))
  (ai (gp (dy (aa (ah "_law_pick" (aa (ab 0) (aa (eC (.int 12)) ae))) ae)) (gN 4) (ai (ak (ah "_law_touch" (aa (ab 1) (aa (ab 2) ae))) (gN 5))
  (ai (bt (aq (oH (dO false) (ab 5))) (az (ab 3)) bA)
  (ai (ak (ah "_law_value" (aa (ab 0) (aa (ab 5) ae))) (gN 6))
  (ai (bt (aq (ag jI (ag ar (ab 5) (eC (.int 0))) (aA (aa (eC (.str "put")) (aa (eC (.str "send")) (aa (eC (.str "say")) ae)))))) (ak (ag ar (ab 5) (eC (.int 2))) (gN 6)) bA)
  (ai (ak (ag ar (aH (aa (eC .non) (aa (aA (aa (eC (.int 0)) (aa (eC (.int 1)) ae))) (aa (eC (.int 5)) (aa (eC (.str "x")) (aa (aH (aa (eC (.int 1)) ae)) ae)))))) (ah "_law_pick" (aa (ab 0) (aa (eC (.int 5)) ae)))) (gN 7))
  (ai (fT (eM cV eG (ab 3) (aa (aA (aa (ag ar (ab 5) (eC (.int 0))) (aa (ag ar (ab 5) (eC (.int 1))) (aa (ab 6) (aa (ab 7) ae))))) ae)))
  (ak (ah "_law_behind" (aa (ab 1) (aa (ab 2) (aa (ab 6) ae)))) (gN 2)))))))))
  (az (ab 3))))
noncomputable def cW:Df:=⟨["_law_state", "_law_rows", "_law_seat_here"],5,eU⟩
noncomputable def ib:MS :=
  (ai (ak (ab 1) (BU 4 (aG (gN 2) (aG (gN 3) (aG (gN 4) (aG (gN 5) dA))))))
  (ai (ak (ah "_law_pick" (aa (ab 0) (aa (eC (.int 8)) ae))) (gN 6))
  (ai (bt (aq (ag cm (ab 6) (eC (.int 0)))) (az (aA (aa (ag ar (aH (aa (eC (.str "get")) (aa (eC (.str "put")) (aa (eC (.str "take")) (aa (eC (.str "free")) (aa (eC (.str "say")) (aa (eC (.str "hear")) (aa (eC (.str "")) (aa (eC .non) (aa (eC (.int 5)) ae)))))))))) (ah "_law_pick" (aa (ab 0) (aa (eC (.int 9)) ae)))) (aa (ab 3) (aa (ab 4) (aa (ab 5) ae)))))) bA)
  (ai (bt (aq (ag cm (ab 6) (eC (.int 1)))) (az (aA (aa (ab 2) (aa (ag ar (aH (aa (eC (.str "a")) (aa (eC (.str "")) (aa (eC (.str "lets")) (aa (eC .non) (aa (eC (.int 5)) (aa (aA (aa (eC (.str "a")) ae)) ae))))))) (ah "_law_pick" (aa (ab 0) (aa (eC (.int 6)) ae)))) (aa (ab 4) (aa (ab 5) ae)))))) bA)
  (ai (bt (aq (ag Br (ab 6) (eC (.int 5)))) (ai (ak (aH (aa (eC .non) (aa (eC (.bl true)) (aa (eC (.bl false)) (aa (oH B5 (eC (.int 1))) (aa (eC (.int 0)) (aa (eC (.int 1)) (aa (eC (.int 2)) (aa (eC (.int 999)) (aa (eC (.int 1000)) (aa (eC (.str "0")) (aa (aA (aa (eC (.int 1)) ae)) (aa (ag xU (eC (.int 10)) (eC (.int 30))) ae))))))))))))) (gN 7))
  (ai (bt (aq (ah "_law_whole" (aa (ab 4) (aa (eC (.int 0)) (aa (eC (.int 999)) ae))))) (ak (ag aE (ab 7) (aH (aa (ag aE (ab 4) (eC (.int 1))) (aa (ag nX (ab 4) (eC (.int 1))) (aa (ag eA (ag aE (ab 4) (eC (.int 500))) (eC (.int 1000))) ae))))) (gN 7)) bA)
  (az (aA (aa (ab 2) (aa (ab 3) (aa (ag ar (ab 7) (ah "_law_pick" (aa (ab 0) (aa (eB bN (aa (ab 7) ae)) ae)))) (aa (ab 5) ae)))))))) bA)
  (ai (bt (aq (ag cm (ab 6) (eC (.int 5)))) (az (ag ar (aH (aa (aH (aa (ab 2) (aa (ab 3) (aa (ab 4) (aa (ab 5) ae))))) (aa (aA (aa (ab 2) (aa (ab 3) (aa (ab 4) ae)))) (aa (ag aE (ab 1) (aA (aa (eC (.int 1)) ae))) ae)))) (ah "_law_pick" (aa (ab 0) (aa (eC (.int 3)) ae))))) bA)
  (ai (bt (aq (ag cm (ab 6) (eC (.int 6)))) (az (ag ar (aH (aa (eC .non) (aa (eC (.int 5)) (aa (eC (.str "get")) (aa (aA ae) (aa jn (aa (eC (.bl true)) ae))))))) (ah "_law_pick" (aa (ab 0) (aa (eC (.int 6)) ae))))) bA)
  (az (aA (aa (ab 2) (aa (ab 3) (aa (ab 4) (aa (eC (.str "other")) ae)))))))))))))
noncomputable def eE:Df:=⟨["_law_state", "_law_look"],6,ib⟩
noncomputable def AR:MS :=
  (ai (ak (pO (fD (eC (.str "script")) (ab 0) (fD (eC (.str "k")) (eC (.int 0)) xg))) (gN 1))
  (ai (ak (aH (aa (ah "_law_program" (aa (ab 1) ae)) (aa (ah "_law_program" (aa (ab 1) ae)) ae))) (gN 2))
  (ai (gp (dy (aa (eC (.int 8)) ae)) (gN 3) (ai (ak (ag ar (ab 2) (ag eA (ab 3) (eC (.int 2)))) (gN 4))
  (ai (ak (ah "_law_pick" (aa (ab 1) (aa (eB bN (aa (ag ar (ab 4) (eC (.int 4))) ae)) ae))) (gN 5))
  (ai (ak (ag ar (ag ar (ag ar (ab 4) (eC (.int 4))) (ab 5)) (eC (.int 1))) (gN 6))
  (ai (ak (ah "_law_rested" (aa (ab 6) (aa (ah "_law_seat" (aa (ab 1) (aa (ab 4) (aa (ab 5) ae)))) ae))) (gN 7))
  (ai (ak (ah "_law_looks" (aa (ab 1) (aa (ab 6) (aa (ab 7) ae)))) (gN 8))
  (ai (ak (aH (aa (ab 8) (aa (ag aE (ab 8) (aH (aa (aA (aa (eC (.str "clock")) (aa (eC (.str "")) (aa (eC (.int 1)) (aa (eC .non) ae))))) ae))) (aa (ag aE (ab 8) (jJ (ab 8) cn (cq (eC (.int 1))))) (aa (jJ (ab 8) (cq (eC (.int 1))) cn) ae))))) (gN 9))
  (ai (gp (dy (aa (ag g8 (eC (.int 3)) (eB Al (aa (ag fX (ab 8) (aH ae)) ae))) ae)) (gN 10) (ai (ak (ah "_law_pick" (aa (ab 1) (aa (eB bN (aa (ab 8) ae)) ae))) (gN 11))
  (fT (eM cV eG (ab 9) (aa (ag aE (ag aE (jJ (ab 8) cn (cq (ab 11))) (aH (aa (ah "_law_bent" (aa (ab 1) (aa (ag ar (ab 8) (ab 11)) ae))) ae))) (jJ (ab 8) (cq (ag aE (ab 11) (eC (.int 1)))) cn)) ae)))))
  (gp (mK (ab 9)) (gN 12) (bt (oP (aq (ah "_law_same" (aa (ah "goes_so" (aa (ab 4) (aa (ab 5) (aa (ab 7) (aa (eB bC (aa (ab 12) ae)) ae))))) (aa (ah "_law_goes" (aa (ab 6) (aa (ab 7) (aa (ab 12) ae)))) ae))))) (az (eC (.bl false))) bA))))))))))
  (az (eC (.bl true))))))
noncomputable def tX:Df:=⟨["_law_script"],12,AR⟩
structure cP(pg:Tb):Prop where
 nW:pg.fns "is_whole" =some dz
 j1:pg.fns "is_between" =some cb
 mS:pg.fns "is_value" =some d6
 jg:pg.fns "is_tuple_of" =some ck
 mn:pg.fns "worth" =some fO
 ny:pg.fns "joined_worth" =some cT
 xx:pg.fns "rows_of" =some gq
 zR:pg.fns "rested" =some hX
 tq:pg.fns "is_rested" =some dB
 qh:pg.fns "is_own_row" =some dQ
 kW:pg.fns "behind_own_row" =some bw
 Gh:pg.fns "laid" =some kH
 uT:pg.fns "touch_of" =some dX
 oW:pg.fns "seat_behind" =some bL
 pQ:pg.fns "goes_so" =some fc
 bY:pg.fns "gives_look" =some aO
 jD:pg.fns "may_come" =some cg
 tZ:pg.fns "_law_draw" =some cz
 rT:pg.fns "_law_pick" =some er
 rD:pg.fns "_law_names" =some dM
 d7:pg.fns "_law_sum_in" =some bh
 ue:pg.fns "_law_sum" =some fz
 vz:pg.fns "_law_row" =some fB
 m6:pg.fns "_law_program" =some cR
 eS:pg.fns "_law_worth" =some bJ
 nP:pg.fns "_law_own" =some bu
 pe:pg.fns "_law_rested" =some ef
 qi:pg.fns "_law_touch" =some bI
 o6:pg.fns "_law_behind" =some cJ
 gO:pg.fns "_law_value" =some cC
 sZ:pg.fns "_law_seat" =some eI
 lL:pg.fns "_law_same" =some bB
 qO:pg.fns "_law_whole" =some bZ
 bR:pg.fns "_law_is_look" =some aM
 sy:pg.fns "_law_goes" =some eK
 qA:pg.fns "_law_looks" =some cW
 sr:pg.fns "_law_bent" =some eE
 Fs:pg.fns "law" =some tX
 Nh:pg.con "WORTHS" =some (.int 1000)
 yx:pg.con "MOST_OWN_ROWS" =some (.int 200)
 FR:pg.con "POCKETING" =some (.ktup [(.str "get"),(.str "fetch"),(.str "clock"),(.str "lot"),(.str "hear")])
 eF:pg.yv "ROW_PARTS" =some eF
noncomputable def HA:List (String × Df):=[("is_whole",dz),("is_between",cb),("is_value",d6),("is_tuple_of",ck),("worth",fO),("joined_worth",cT),("rows_of",gq),("rested",hX),("is_rested",dB),("is_own_row",dQ),("behind_own_row",bw),("laid",kH),("touch_of",dX),("seat_behind",bL),("goes_so",fc),("gives_look",aO),("may_come",cg),("_law_draw",cz),("_law_pick",er),("_law_names",dM),("_law_sum_in",bh),("_law_sum",fz),("_law_row",fB),("_law_program",cR),("_law_worth",bJ),("_law_own",bu),("_law_rested",ef),("_law_touch",bI),("_law_behind",cJ),("_law_value",cC),("_law_seat",eI),("_law_same",bB),("_law_whole",bZ),("_law_is_look",aM),("_law_goes",eK),("_law_looks",cW),("_law_bent",eE),("law",tX)]
noncomputable def conT:List (Str × PV):=[("WORTHS",(.int 1000)),("MOST_OWN_ROWS",(.int 200)),("POCKETING",(.ktup [(.str "get"),(.str "fetch"),(.str "clock"),(.str "lot"),(.str "hear")]))]
noncomputable def dcT:List (Str × List (Key × PV)):=[("ROW_PARTS",eF)]
noncomputable def tb:Tb:=⟨λf=>(HA.find? λp=>p.1 == f).map (·.2),λx=>(conT.find? λp=>decide (p.1=x)).map (·.2),λx=>(dcT.find? λp=>decide (p.1=x)).map (·.2)⟩
theorem bp{l:List (String × Df)}(nd:(l.map (·.1)).Nodup)(i:Nat){f:String}{d:Df}(e:l[i]?=some (f,d)):(l.find? λp=>p.1 == f).map (·.2)=some d:=by
 induction l generalizing i d with
 | nil=>exact nomatch e
 | cons x l ih =>
  rw[List.map_cons,List.nodup_cons] at nd
  cases i with
  | zero =>
   rw[List.getElem?_cons_zero] at e
   cases e
   rw[List.find?_cons_of_pos (by simp)];rfl
  | succ i =>
   rw[List.getElem?_cons_succ] at e
   have m:(f,d)∈l:=List.mem_of_getElem? e
   have ne: ¬ (x.1 == f)=true:=λz=>nd.1 (by rw[beq_iff_eq.mp z];exact List.mem_map.mpr ⟨_,m,rfl⟩)
   rw[List.find?_cons_of_neg (p:=λp:String × Df=>p.1 == f) ne]
   exact ih nd.2 i e
theorem bj:(HA.map (·.1)).Nodup:=by decide +kernel
theorem has:cP tb:=⟨bp bj 0 rfl,bp bj 1 rfl,bp bj 2 rfl,bp bj 3 rfl,bp bj 4 rfl,bp bj 5 rfl,bp bj 6 rfl,bp bj 7 rfl,bp bj 8 rfl,bp bj 9 rfl,bp bj 10 rfl,bp bj 11 rfl,bp bj 12 rfl,bp bj 13 rfl,bp bj 14 rfl,bp bj 15 rfl,bp bj 16 rfl,bp bj 17 rfl,bp bj 18 rfl,bp bj 19 rfl,bp bj 20 rfl,bp bj 21 rfl,bp bj 22 rfl,bp bj 23 rfl,bp bj 24 rfl,bp bj 25 rfl,bp bj 26 rfl,bp bj 27 rfl,bp bj 28 rfl,bp bj 29 rfl,bp bj 30 rfl,bp bj 31 rfl,bp bj 32 rfl,bp bj 33 rfl,bp bj 34 rfl,bp bj 35 rfl,bp bj 36 rfl,bp bj 37 rfl,rfl,rfl,rfl,rfl⟩
local macro_rules
 | `(tactic| array_get_dec)=> do
  let tm (x:String):Lean.MacroM Lean.Term:=match x with
   | "?"=>`(?_)
   | "_"=>`(_)
   | "A"=>`(by assumption)
   | "R"=>`(rfl)
   | "F"=>`(λ_ _=>rfl)
   | "K"=>`(by decide +kernel)
   | "D"=>`(by decide)
   | "Q"=>`(⟨rfl,rfl,rfl,rfl⟩)
   | "L"=>`(λ_ _ _ _ _ _=>⟨λ_=>?_,?_,?_⟩)
   | "O"=>`(by first | exact Or.inl rfl | exact Or.inr rfl)
   | "Z"=>`(by intro z;cases z)
   | "w"=>`(AN _)
   | x=>pure (Lean.mkIdent x.toName)
  let al (a:String):Lean.MacroM (Lean.TSyntax `tactic):=do
   match a.splitOn " " with
   | ["p",q,n]=>`(tactic| refine $(Lean.mkIdent q.toName) ($(Lean.mkIdent n.toName) ?_ ?_))
   | [n]=>`(tactic| refine $(Lean.mkIdent n.toName))
   | n::r=>do
     let ts ← r.toArray.mapM tm
     `(tactic| refine $(Lean.mkIdent n.toName) $ts*)
   | []=>Lean.Macro.throwUnsupported
  let fs (x:List (Lean.TSyntax `tactic)):Lean.MacroM (Lean.TSyntax `tactic):=do
   let e ← `(tactic| fail)
   x.foldrM (λa b=>`(tactic| first | $a:tactic | $b:tactic)) e
  let gr (g:String):Lean.MacroM (Lean.TSyntax `tactic):=do
   match g.splitOn ":" with
   | [h,b]=>do
     let y ← fs (← (b.splitOn "|").mapM al)
     match h.splitOn " " with
     | [n,k]=>do
       let hs ← (Array.range k.toNat!).mapM λ_=>`(_)
       `(tactic| (show $(Lean.mkIdent n.toName) $hs*;$y:tactic))
     | _=>Lean.Macro.throwUnsupported
   | _=>Lean.Macro.throwUnsupported
  let a ← ("JE 5:JN _|GW|Ju|Kw|NY|NP Pd ? ? F|E6 A R ?|NL ? ? ?|JD ?|HC ?|zd ? ? ? w|zd ? ? ? R|Im ?|Ae ? ? ? ? ?|Jz ?|Nc LD ?|Kj ? ?|NA ? ?|J1 ?|Bz ? ? ?|EW A R ? F|Bb ? ? ?|Ah|CQ ? R R Z D|Dx ? ? ? Q|IK ? L|JK ? L|KH A R|B0 M8 R K PySem.boot_len ?|B0 MC R K boot_isinstance ?|B0 NX R K boot_all ?|B0 xa R K boot_sorted ?|DI K6 R K boot_int ?|DI Dj R K boot_tuple ?|DI J2 R K boot_list ?|DI Ha R K boot_dict ?|pF R K boot_int|pF R K boot_bool|pF R K boot_str|pF R K boot_list|pF R K boot_tuple|pF R K boot_dict|Hn PySem.F.plainAttrs_list PySem.F.slot_list_append PySem.F.type_list_append Bj ? ?|Hn PySem.F.plainAttrs_dict PySem.F.slot_dict_update PySem.F.type_dict_update Aa ? ?|Hn PySem.F.plainAttrs_list PySem.F.slot_list_remove PySem.F.type_list_remove zI ? ?#JA 5:Ht|E1 ? ?#wZ 5:Ew|E2 ?|AV ? ?#JS 5:JU A ? L|Kn A ? L|Iq A R O ?|L3 ? ? ?|Jl ?|Dg ?|HX M6 ? ? ?|GV ? ?|HW ? ? ? PassesOwn.never|zU ? ? PassesOwn.never#JT 5:yy ? ? ? w|yy ? ? ? R|F4 ?|B2 ?|p JW.pt yQ|p JW.pt FL|Gz ?|J8 ?#JW 5:yQ ? ?|FL ? ?|Ej ?|Ik ?#JO 5:CS|Cj ?#JP 7:KN|Cw ? ? ?#JG 5:CL A R O|IE ?|DN ?#KR 5:DA|Aq ? ?#JI 6:x8 R ?|GJ R ? ?|Cb R ?|Hl ?#JF 5:Jv|Ga ?#QG 3:vL A R O".splitOn "#").mapM gr
  let b ← ("Lo|GX|LL|I0|LU|Mc|OY|Oo|O2|Pa|Ov|OE|OI|Dp".splitOn "|").mapM al
  let t ← fs (a++b)
  `(tactic| repeat' first | $t:tactic | fail)
section
variable{P:Program}{w:World}{K:PySem.W.Frag}{mg:Str->Option Value}{pg:Tb}
abbrev m7:List Str:=["thing"]
theorem vj(T:cP pg)(a:At K mg "is_whole" (top 1)):aL P w K mg pg "is_whole" dz (top 1) m7:=by
 have S:ay m7 dz.ps (aj (top 1)):=⟨rfl,rfl,rfl,by decide +kernel,rfl,by decide +kernel,by decide +kernel⟩
 have z:=S.nd;obtain ⟨⟩:=T;refine aL.of fq rfl a S rfl (λ_ _ _ _ _ _=>K4 λ_=>rfl) λ_ _ _ _ _ _ _ _ _=>?_
 array_get_dec
abbrev ka:List Str:=["thing", "least", "most"]
theorem qJ (T:cP pg) (a:At K mg "is_between" (top 2)):aL P w K mg pg "is_between" cb (top 2) ka:=by
 have S:ay ka cb.ps (aj (top 2)):=⟨rfl,rfl,rfl,by decide +kernel,rfl,by decide +kernel,by decide +kernel⟩
 have z:=S.nd;obtain⟨⟩:=T;refine aL.of cY rfl a S rfl (λ_ _ _ _ _ _=>xv λ_ _ _=>rfl) λ_ _ _ _ _ _ _ _ _=>?_
 array_get_dec
abbrev nN:List Str:=["thing"]
theorem uh(T:cP pg)(a:At K mg "is_value" (top 3)):aL P w K mg pg "is_value" d6 (top 3) nN:=by
 have S:ay nN d6.ps (aj (top 3)):=⟨rfl,rfl,rfl,by decide +kernel,rfl,by decide +kernel,by decide +kernel⟩
 have z:=S.nd;obtain ⟨⟩:=T;refine aL.of gH rfl a S rfl (λ_ _ _ _ _ _=>K4 λ_=>rfl) λ_ _ _ _ _ _ _ _ _=>?_
 array_get_dec
abbrev je:List Str:=["thing", "many"]
theorem o8 (T:cP pg) (a:At K mg "is_tuple_of" (top 4)):aL P w K mg pg "is_tuple_of" ck (top 4) je:=by
 have S:ay je ck.ps (aj (top 4)):=⟨rfl,rfl,rfl,by decide +kernel,rfl,by decide +kernel,by decide +kernel⟩
 have z:=S.nd;obtain ⟨⟩:=T;refine aL.of dq rfl a S rfl (λ_ _ _ _ _ _=>rN λ_ _=>rfl) λ_ _ _ _ _ _ _ _ _=>?_
 array_get_dec
abbrev vE:List Str:=["tree", "pockets", "word", "one"]
theorem C5 (T:cP pg) (a:At K mg "worth" (top 8)):aL P w K mg pg "worth" fO (top 8) vE:=by
 have S:ay vE fO.ps (aj (top 8)):=⟨rfl,rfl,rfl,by decide +kernel,rfl,by decide +kernel,by decide +kernel⟩
 have z:=S.nd;obtain ⟨⟩:=T;refine aL.of iQ rfl a S rfl (λ_ _ _ _ _ _=>rN λ_ _=>rfl) λ_ _ _ _ _ _ _ _ _=>?_
 array_get_dec
abbrev iD:List Str:=["word", "one", "other"]
theorem nV (T:cP pg) (a:At K mg "joined_worth" (top 9)):aL P w K mg pg "joined_worth" cT (top 9) iD:=by
 have S:ay iD cT.ps (aj (top 9)):=⟨rfl,rfl,rfl,by decide +kernel,rfl,by decide +kernel,by decide +kernel⟩
 have z:=S.nd;obtain ⟨⟩:=T;refine aL.of fg rfl a S rfl (λ_ _ _ _ _ _=>xv λ_ _ _=>rfl) λ_ _ _ _ _ _ _ _ _=>?_
 array_get_dec
abbrev pK:List Str:=["program", "hand"]
theorem yc (T:cP pg) (a:At K mg "rows_of" (top 11)):aL P w K mg pg "rows_of" gq (top 11) pK:=by
 have S:ay pK gq.ps (aj (top 11)):=⟨rfl,rfl,rfl,by decide +kernel,rfl,by decide +kernel,by decide +kernel⟩
 have z:=S.nd;obtain ⟨⟩:=T;refine aL.of kP rfl a S rfl (λ_ _ _ _ _ _=>rN λ_ _=>rfl) λ_ _ _ _ _ _ _ _ _=>?_
 array_get_dec
abbrev tS:List Str:=["program", "hand", "seat", "rows", "here", "turn"]
theorem Bg (T:cP pg) (a:At K mg "rested" (top 15)):aL P w K mg pg "rested" hX (top 15) tS:=by
 have S:ay tS hX.ps (aj (top 15)):=⟨rfl,rfl,rfl,by decide +kernel,rfl,by decide +kernel,by decide +kernel⟩
 have z:=S.nd;obtain ⟨⟩:=T;refine aL.of mX rfl a S rfl (λ_ _ _ _ _ _=>xv λ_ _ _=>rfl) λ_ _ _ _ _ _ _ _ _=>?_
 array_get_dec
abbrev lR:List Str:=["rows", "seat"]
theorem rX (T:cP pg) (a:At K mg "is_rested" (top 16)):aL P w K mg pg "is_rested" dB (top 16) lR:=by
 have S:ay lR dB.ps (aj (top 16)):=⟨rfl,rfl,rfl,by decide +kernel,rfl,by decide +kernel,by decide +kernel⟩
 have z:=S.nd;obtain ⟨⟩:=T;refine aL.of fM rfl a S rfl (λ_ _ _ _ _ _=>rN λ_ _=>rfl) λ_ _ _ _ _ _ _ _ _=>?_
 array_get_dec
abbrev ki:List Str:=["row", "held"]
theorem rC (T:cP pg) (a:At K mg "is_own_row" (top 17)):aL P w K mg pg "is_own_row" dQ (top 17) ki:=by
 have S:ay ki dQ.ps (aj (top 17)):=⟨rfl,rfl,rfl,by decide +kernel,rfl,by decide +kernel,by decide +kernel⟩
 have z:=S.nd;obtain ⟨⟩:=T;refine aL.of gM rfl a S rfl (λ_ _ _ _ _ _=>rN λ_ _=>rfl) λ_ _ _ _ _ _ _ _ _=>?_
 array_get_dec
abbrev gv:List Str:=["row", "seat", "onward"]
theorem lb (T:cP pg) (a:At K mg "behind_own_row" (top 18)):aL P w K mg pg "behind_own_row" bw (top 18) gv:=by
 have S:ay gv bw.ps (aj (top 18)):=⟨rfl,rfl,rfl,by decide +kernel,rfl,by decide +kernel,by decide +kernel⟩
 have z:=S.nd;obtain ⟨⟩:=T;refine aL.of cw rfl a S rfl (λ_ _ _ _ _ _=>rN λ_ _=>rfl) λ_ _ _ _ _ _ _ _ _=>?_
 array_get_dec
abbrev vi:List Str:=["pockets", "name", "value", "others"]
theorem HU (T:cP pg) (a:At K mg "laid" (top 19)):aL P w K mg pg "laid" kH (top 19) vi:=by
 have S:ay vi kH.ps (aj (top 19)):=⟨rfl,rfl,rfl,by decide +kernel,rfl,by decide +kernel,by decide +kernel⟩
 have z:=S.nd;have z0:(t8 vi ["pocket"]).Nodup:=by decide +kernel
 obtain ⟨⟩:=T;refine aL.of ql rfl a S rfl (λ_ _ _ _ _ _=>xv λ_ _ _=>rfl) λ_ _ _ _ _ _ _ _ _=>?_
 array_get_dec
abbrev ni:List Str:=["program", "hand", "seat", "rows", "row", "thing", "value", "part", "entry"]
theorem uU (T:cP pg) (a:At K mg "touch_of" (top 20)):aL P w K mg pg "touch_of" dX (top 20) ni:=by
 have S:ay ni dX.ps (aj (top 20)):=⟨rfl,rfl,rfl,by decide +kernel,rfl,by decide +kernel,by decide +kernel⟩
 have z:=S.nd;obtain ⟨⟩:=T;refine aL.of gD rfl a S rfl (λ_ _ _ _ _ _=>xv λ_ _ _=>rfl) λ_ _ _ _ _ _ _ _ _=>?_
 array_get_dec
abbrev gc:List Str:=["program", "hand", "seat", "value", "row", "pockets", "held"]
theorem oN (T:cP pg) (a:At K mg "seat_behind" (top 21)):aL P w K mg pg "seat_behind" bL (top 21) gc:=by
 have S:ay gc bL.ps (aj (top 21)):=⟨rfl,rfl,rfl,by decide +kernel,rfl,by decide +kernel,by decide +kernel⟩
 have z:=S.nd;have z0:(t8 gc ["lock"]).Nodup:=by decide +kernel
 obtain ⟨⟩:=T;refine aL.of cI rfl a S rfl (λ_ _ _ _ _ _=>Of λ_ _ _ _=>rfl) λ_ _ _ _ _ _ _ _ _=>?_
 array_get_dec
abbrev pX:List Str:=["program", "hand", "seat", "things", "here", "many", "thing", "touch"]
theorem xS (T:cP pg) (a:At K mg "goes_so" (top 22)):aL P w K mg pg "goes_so" fc (top 22) pX:=by
 have S:ay pX fc.ps (aj (top 22)):=⟨rfl,rfl,rfl,by decide +kernel,rfl,by decide +kernel,by decide +kernel⟩
 have z:=S.nd;obtain ⟨⟩:=T;refine aL.of iJ rfl a S rfl (λ_ _ _ _ _ _=>Of λ_ _ _ _=>rfl) λ_ _ _ _ _ _ _ _ _=>?_
 array_get_dec
abbrev kh:List Str:=["touch", "thing"]
theorem rG (T:cP pg) (a:At K mg "gives_look" (top 23)):aL P w K mg pg "gives_look" aO (top 23) kh:=by
 have S:ay kh aO.ps (aj (top 23)):=⟨rfl,rfl,rfl,by decide +kernel,rfl,by decide +kernel,by decide +kernel⟩
 have z:=S.nd;obtain ⟨⟩:=T;refine aL.of aT rfl a S rfl (λ_ _ _ _ _ _=>rN λ_ _=>rfl) λ_ _ _ _ _ _ _ _ _=>?_
 array_get_dec
abbrev nq:List Str:=["touch", "value"]
theorem uL (T:cP pg) (a:At K mg "may_come" (top 24)):aL P w K mg pg "may_come" cg (top 24) nq:=by
 have S:ay nq cg.ps (aj (top 24)):=⟨rfl,rfl,rfl,by decide +kernel,rfl,by decide +kernel,by decide +kernel⟩
 have z:=S.nd;obtain ⟨⟩:=T;refine aL.of cU rfl a S rfl (λ_ _ _ _ _ _=>rN λ_ _=>rfl) λ_ _ _ _ _ _ _ _ _=>?_
 array_get_dec
abbrev lN:List Str:=["_law_script", "_law_k", "_law_many", "_law_cell", "_law_left", "_law_j", "_law_seed"]
theorem sT (T:cP pg) (a:At K mg "_law_draw" (top 26)):aL P w K mg pg "_law_draw" cz (top 26) lN:=by
 have S:ay lN cz.ps (aj (top 26)):=⟨rfl,rfl,rfl,by decide +kernel,rfl,by decide +kernel,by decide +kernel⟩
 have z:=S.nd;obtain ⟨⟩:=T;refine aL.of dC rfl a S rfl (λ_ _ _ _ _ _=>xv λ_ _ _=>rfl) λ_ _ _ _ _ _ _ _ _=>?_
 array_get_dec
abbrev lK:List Str:=["_law_state", "_law_many"]
theorem rP (T:cP pg) (a:At K mg "_law_pick" (top 27)):aL P w K mg pg "_law_pick" er (top 27) lK:=by
 have S:ay lK er.ps (aj (top 27)):=⟨rfl,rfl,rfl,by decide +kernel,rfl,by decide +kernel,by decide +kernel⟩
 have z:=S.nd;obtain ⟨⟩:=T;refine aL.of ip rfl a S rfl (λ_ _ _ _ _ _=>rN λ_ _=>rfl) λ_ _ _ _ _ _ _ _ _=>?_
 array_get_dec
abbrev ke:List Str:=["_law_state", "_law_some", "_law_turn"]
theorem qg (T:cP pg) (a:At K mg "_law_names" (top 28)):aL P w K mg pg "_law_names" dM (top 28) ke:=by
 have S:ay ke dM.ps (aj (top 28)):=⟨rfl,rfl,rfl,by decide +kernel,rfl,by decide +kernel,by decide +kernel⟩
 have z:=S.nd;obtain ⟨⟩:=T;refine aL.of gU rfl a S rfl (λ_ _ _ _ _ _=>K4 λ_=>rfl) λ_ _ _ _ _ _ _ _ _=>?_
 array_get_dec
abbrev jh:List Str:=["_law_state", "_law_pockets", "_law_deep", "_law_way", "_law_word", "_law_one"]
theorem o9 (T:cP pg) (a:At K mg "_law_sum_in" (top 29)):aL P w K mg pg "_law_sum_in" bh (top 29) jh:=by
 have S:ay jh bh.ps (aj (top 29)):=⟨rfl,rfl,rfl,by decide +kernel,rfl,by decide +kernel,by decide +kernel⟩
 have z:=S.nd;obtain ⟨⟩:=T;refine aL.of bK rfl a S rfl (λ_ _ _ _ _ _=>xv λ_ _ _=>rfl) λ_ _ _ _ _ _ _ _ _=>?_
 array_get_dec
abbrev mV:List Str:=["_law_state", "_law_pockets"]
theorem uQ (T:cP pg) (a:At K mg "_law_sum" (top 30)):aL P w K mg pg "_law_sum" fz (top 30) mV:=by
 have S:ay mV fz.ps (aj (top 30)):=⟨rfl,rfl,rfl,by decide +kernel,rfl,by decide +kernel,by decide +kernel⟩
 have z:=S.nd;obtain ⟨⟩:=T;refine aL.of jr rfl a S rfl (λ_ _ _ _ _ _=>rN λ_ _=>rfl) λ_ _ _ _ _ _ _ _ _=>?_
 array_get_dec
abbrev nj:List Str:=["_law_state", "_law_named", "_law_pockets", "_law_many", "_law_kinds", "_law_sort", "_law_some", "_law_kind", "_law_pocket", "_law_sorts", "_law_thing"]
theorem uX (T:cP pg) (a:At K mg "_law_row" (top 31)):aL P w K mg pg "_law_row" fB (top 31) nj:=by
 have S:ay nj fB.ps (aj (top 31)):=⟨rfl,rfl,rfl,by decide +kernel,rfl,by decide +kernel,by decide +kernel⟩
 have z:=S.nd;obtain ⟨⟩:=T;refine aL.of ju rfl a S rfl (λ_ _ _ _ _ _=>Of λ_ _ _ _=>rfl) λ_ _ _ _ _ _ _ _ _=>?_
 array_get_dec
abbrev dR:List Str:=["_law_state", "_law_names_here", "_law_named", "_law_sort", "_law_many", "_law_pockets", "_law_hands", "_law_name", "_law_boxes"]
theorem oa (T:cP pg) (a:At K mg "_law_program" (top 32)):aL P w K mg pg "_law_program" cR (top 32) dR:=by
 have S:ay dR cR.ps (aj (top 32)):=⟨rfl,rfl,rfl,by decide +kernel,rfl,by decide +kernel,by decide +kernel⟩
 have z:=S.nd;have z0:(t8 dR ["_law_k"]).Nodup:=by decide +kernel
 have z1:(t8 dR ["_law_name"]).Nodup:=by decide +kernel
 obtain ⟨⟩:=T;refine aL.of fA rfl a S rfl (λ_ _ _ _ _ _=>K4 λ_=>rfl) λ_ _ _ _ _ _ _ _ _=>?_
 array_get_dec
abbrev gR:List Str:=["_law_thing", "_law_pockets", "_law_some", "_law_one", "_law_other", "_law_table"]
theorem rh (T:cP pg) (a:At K mg "_law_worth" (top 33)):aL P w K mg pg "_law_worth" bJ (top 33) gR:=by
 have S:ay gR bJ.ps (aj (top 33)):=⟨rfl,rfl,rfl,by decide +kernel,rfl,by decide +kernel,by decide +kernel⟩
 have z:=S.nd;have z0:(t8 gR ["_law_part"]).Nodup:=by decide +kernel
 obtain ⟨⟩:=T;refine aL.of cE rfl a S rfl (λ_ _ _ _ _ _=>rN λ_ _=>rfl) λ_ _ _ _ _ _ _ _ _=>?_
 array_get_dec
abbrev nJ:List Str:=["_law_rows", "_law_at", "_law_pockets", "_law_held", "_law_row_here"]
theorem ui (T:cP pg) (a:At K mg "_law_own" (top 34)):aL P w K mg pg "_law_own" bu (top 34) nJ:=by
 have S:ay nJ bu.ps (aj (top 34)):=⟨rfl,rfl,rfl,by decide +kernel,rfl,by decide +kernel,by decide +kernel⟩
 have z:=S.nd;obtain ⟨⟩:=T;refine aL.of bQ rfl a S rfl (λ_ _ _ _ _ _=>Of λ_ _ _ _=>rfl) λ_ _ _ _ _ _ _ _ _=>?_
 array_get_dec
abbrev f9:List Str:=["_law_rows", "_law_seat_here", "_law_pockets", "_law_at", "_law_passed", "_law_behind_here", "_law_former"]
theorem ph (T:cP pg) (a:At K mg "_law_rested" (top 35)):aL P w K mg pg "_law_rested" ef (top 35) f9:=by
 have S:ay f9 ef.ps (aj (top 35)):=⟨rfl,rfl,rfl,by decide +kernel,rfl,by decide +kernel,by decide +kernel⟩
 have z:=S.nd;have z0:(t8 f9 ["_law_name"]).Nodup:=by decide +kernel
 obtain ⟨⟩:=T;refine aL.of jd rfl a S rfl (λ_ _ _ _ _ _=>rN λ_ _=>rfl) λ_ _ _ _ _ _ _ _ _=>?_
 array_get_dec
abbrev jN:List Str:=["_law_rows", "_law_seat_here", "_law_row_here"]
theorem rB (T:cP pg) (a:At K mg "_law_touch" (top 36)):aL P w K mg pg "_law_touch" bI (top 36) jN:=by
 have S:ay jN bI.ps (aj (top 36)):=⟨rfl,rfl,rfl,by decide +kernel,rfl,by decide +kernel,by decide +kernel⟩
 have z:=S.nd;obtain ⟨⟩:=T;refine aL.of cF rfl a S rfl (λ_ _ _ _ _ _=>rN λ_ _=>rfl) λ_ _ _ _ _ _ _ _ _=>?_
 array_get_dec
abbrev gf:List Str:=["_law_rows", "_law_seat_here", "_law_value_here", "_law_row_here", "_law_pockets", "_law_held", "_law_some"]
theorem pb (T:cP pg) (a:At K mg "_law_behind" (top 37)):aL P w K mg pg "_law_behind" cJ (top 37) gf:=by
 have S:ay gf cJ.ps (aj (top 37)):=⟨rfl,rfl,rfl,by decide +kernel,rfl,by decide +kernel,by decide +kernel⟩
 have z:=S.nd;have z0:(t8 gf ["_law_name"]).Nodup:=by decide +kernel
 obtain ⟨⟩:=T;refine aL.of jb rfl a S rfl (λ_ _ _ _ _ _=>xv λ_ _ _=>rfl) λ_ _ _ _ _ _ _ _ _=>?_
 array_get_dec
abbrev kc:List Str:=["_law_state", "_law_touch_here"]
theorem qm (T:cP pg) (a:At K mg "_law_value" (top 38)):aL P w K mg pg "_law_value" cC (top 38) kc:=by
 have S:ay kc cC.ps (aj (top 38)):=⟨rfl,rfl,rfl,by decide +kernel,rfl,by decide +kernel,by decide +kernel⟩
 have z:=S.nd;obtain ⟨⟩:=T;refine aL.of dN rfl a S rfl (λ_ _ _ _ _ _=>rN λ_ _=>rfl) λ_ _ _ _ _ _ _ _ _=>?_
 array_get_dec
abbrev fL:List Str:=["_law_state", "_law_program_here", "_law_hand", "_law_rows", "_law_names_here", "_law_pockets", "_law_held"]
theorem tN (T:cP pg) (a:At K mg "_law_seat" (top 39)):aL P w K mg pg "_law_seat" eI (top 39) fL:=by
 have S:ay fL eI.ps (aj (top 39)):=⟨rfl,rfl,rfl,by decide +kernel,rfl,by decide +kernel,by decide +kernel⟩
 have z:=S.nd;have z0:(t8 fL ["_law_name"]).Nodup:=by decide +kernel
 have z1:(t8 fL ["_law_lock"]).Nodup:=by decide +kernel
 obtain ⟨⟩:=T;refine aL.of iw rfl a S rfl (λ_ _ _ _ _ _=>xv λ_ _ _=>rfl) λ_ _ _ _ _ _ _ _ _=>?_
 array_get_dec
abbrev iI:List Str:=["_law_found", "_law_due"]
theorem sG (T:cP pg) (a:At K mg "_law_same" (top 40)):aL P w K mg pg "_law_same" bB (top 40) iI:=by
 have S:ay iI bB.ps (aj (top 40)):=⟨rfl,rfl,rfl,by decide +kernel,rfl,by decide +kernel,by decide +kernel⟩
 have z:=S.nd;have z0:(t8 iI ["_law_k"]).Nodup:=by decide +kernel
 obtain ⟨⟩:=T;refine aL.of bX rfl a S rfl (λ_ _ _ _ _ _=>rN λ_ _=>rfl) λ_ _ _ _ _ _ _ _ _=>?_
 array_get_dec
abbrev kf:List Str:=["_law_thing", "_law_least", "_law_most"]
theorem rK (T:cP pg) (a:At K mg "_law_whole" (top 41)):aL P w K mg pg "_law_whole" bZ (top 41) kf:=by
 have S:ay kf bZ.ps (aj (top 41)):=⟨rfl,rfl,rfl,by decide +kernel,rfl,by decide +kernel,by decide +kernel⟩
 have z:=S.nd;obtain ⟨⟩:=T;refine aL.of cX rfl a S rfl (λ_ _ _ _ _ _=>xv λ_ _ _=>rfl) λ_ _ _ _ _ _ _ _ _=>?_
 array_get_dec
abbrev ic:List Str:=["_law_touch_here", "_law_thing"]
theorem mP (T:cP pg) (a:At K mg "_law_is_look" (top 42)):aL P w K mg pg "_law_is_look" aM (top 42) ic:=by
 have S:ay ic aM.ps (aj (top 42)):=⟨rfl,rfl,rfl,by decide +kernel,rfl,by decide +kernel,by decide +kernel⟩
 have z:=S.nd;obtain ⟨⟩:=T;refine aL.of aS rfl a S rfl (λ_ _ _ _ _ _=>rN λ_ _=>rfl) λ_ _ _ _ _ _ _ _ _=>?_
 array_get_dec
abbrev lO:List Str:=["_law_rows", "_law_seat_here", "_law_things", "_law_many", "_law_touch_here"]
theorem sN (T:cP pg) (a:At K mg "_law_goes" (top 43)):aL P w K mg pg "_law_goes" eK (top 43) lO:=by
 have S:ay lO eK.ps (aj (top 43)):=⟨rfl,rfl,rfl,by decide +kernel,rfl,by decide +kernel,by decide +kernel⟩
 have z:=S.nd;obtain ⟨⟩:=T;refine aL.of iz rfl a S rfl (λ_ _ _ _ _ _=>xv λ_ _ _=>rfl) λ_ _ _ _ _ _ _ _ _=>?_
 array_get_dec
abbrev kn:List Str:=["_law_state", "_law_rows", "_law_seat_here", "_law_looks_here", "_law_turn", "_law_touch_here", "_law_value_here", "_law_mark"]
theorem rF (T:cP pg) (a:At K mg "_law_looks" (top 44)):aL P w K mg pg "_law_looks" cW (top 44) kn:=by
 have S:ay kn cW.ps (aj (top 44)):=⟨rfl,rfl,rfl,by decide +kernel,rfl,by decide +kernel,by decide +kernel⟩
 have z:=S.nd;obtain ⟨⟩:=T;refine aL.of eU rfl a S rfl (λ_ _ _ _ _ _=>xv λ_ _ _=>rfl) λ_ _ _ _ _ _ _ _ _=>?_
 array_get_dec
abbrev lE:List Str:=["_law_state", "_law_look", "_law_kind", "_law_thing", "_law_value_here", "_law_mark", "_law_way", "_law_some"]
theorem tK (T:cP pg) (a:At K mg "_law_bent" (top 45)):aL P w K mg pg "_law_bent" eE (top 45) lE:=by
 have S:ay lE eE.ps (aj (top 45)):=⟨rfl,rfl,rfl,by decide +kernel,rfl,by decide +kernel,by decide +kernel⟩
 have z:=S.nd;obtain ⟨⟩:=T;refine aL.of ib rfl a S rfl (λ_ _ _ _ _ _=>rN λ_ _=>rfl) λ_ _ _ _ _ _ _ _ _=>?_
 array_get_dec
abbrev FX:List Str:=["_law_script", "_law_state", "_law_programs", "_law_turn", "_law_program_here", "_law_hand", "_law_rows", "_law_seat_here", "_law_looks_here", "_law_some", "_law_k", "_law_at", "_law_things"]
theorem FN (T:cP pg) (a:At K mg "law" (top 46)):aL P w K mg pg "law" tX (top 46) FX:=by
 have S:ay FX tX.ps (aj (top 46)):=⟨rfl,rfl,rfl,by decide +kernel,rfl,by decide +kernel,by decide +kernel⟩
 have z:=S.nd;obtain⟨⟩:=T;refine aL.of AR rfl a S rfl (λ_ _ _ _ _ _=>K4 λ_=>rfl) λ_ _ _ _ _ _ _ _ _=>?_
 array_get_dec
end
end K11
end
section
open PySem L2 P3
local macro_rules
 | `(tactic| simp? [$ls,*])=> `(tactic| simp? (disch:=omega) only [$ls,*])
 | `(tactic| simp? (disch:= $t) only [$ls,*])=> do
  let xs ← ("↓LJ Gk ↓Lm ↓Iy DS ↓OJ Ij ↓Jt DB DD ↓Lz Gx Ge ↓JM Fb ↓Mt IL Ka Kl ↓Ic ↓ED yD BN ↓G7 Er Dr ↓Eb zF ↓DJ ↓E4 ↓BO yb xT ↓HZ Cc ↓II Dz qM ↓CM ↓OT ↓OC ↓NF Jo GQ Es Di ↓Aj wa Ef ↓Mu ↓Ds AB ↓Gs Ec ↓IF C2 CC Eu ↓BD wg EB HL Fp Jg Jh JX IM ↓Il C7 Ex Cg GR ↓Gf DP tD ↓Ia Iv KP J4 ↓HB Fe ↓GU EX Ai ↓LK F7 Hs Lx F3 Eo EE Ed Dy Kk dU zJ AJ CZ lP List.getElem?_cons_zero List.getElem?_cons_succ List.set_cons_zero List.set_cons_succ List.map_cons List.map_nil List.cons_append List.nil_append List.replicate_succ List.replicate_zero List.length_cons List.length_nil D9 CA vW ES BE Dd Cv F5 Gu Kb Hy EM De EL rn B7 Nz vq vw Ot CK EZ CD Ow mH rE LI OU len_T HN Nt ↓Kr Cz Bc CO Dt yR LA IU xb ur qY ↓zE aY aJ eY vv wq tJ Me JL Gw ↓Mq Gn F8 ↓Mp ↓NV Hq LH Pq La List.append_assoc List.length_append uD EC in_K ↓L5 Kd Mw M0 Mf NU Hd Kc aV decide_true decide_false Bool.not_true Bool.not_false if_true if_false reduceIte ite_self Bool.false_eq_true String.reduceEq String.reduceNe reduceCtorEq Int.reduceEq Int.reduceNe Int.reduceLT Int.reduceLE Int.reduceSub Int.reduceAdd Int.reduceMul Int.reduceToNat Int.reduceNeg".splitOn " ").toArray.mapM λw=>if w.startsWith "↓" then `(Lean.Parser.Tactic.simpLemma| ↓$(Lean.mkIdent (w.drop 1).toName):term) else `(Lean.Parser.Tactic.simpLemma| $(Lean.mkIdent w.toName):term)
  let ys : Lean.TSyntaxArray [`Lean.Parser.Tactic.simpStar,`Lean.Parser.Tactic.simpErase,`Lean.Parser.Tactic.simpLemma] := ls.getElems ++ xs.map (λx=>⟨x.raw⟩)
  `(tactic| simp (disch:= $t) only [$ys,*])
section
set_option maxHeartbeats 1000000
namespace K11
inductive Bo where | add | sub | mul | less | same
 deriving DecidableEq
noncomputable def Bo.w:Bo->Str
 | .add=> "add" | .sub=> "sub" | .mul=> "mul" | .less=> "less" | .same=> "same"
noncomputable def Bo.f:Bo->Int->Int->Int
 | .add,a,b=>(a+b) % 1000
 | .sub,a,b=>(a - b) % 1000
 | .mul,a,b=>a*b % 1000
 | .less,a,b=>if a < b then 1 else 0
 | .same,a,b=>if a=b then 1 else 0
inductive Sm where
 | num (n:Int) | of (x:Str) | un (a:Sm) | bin (o:Bo) (a b:Sm)
noncomputable def ee:Sm->PV
 | .num n=> .tup [.str "num",.int n]
 | .of x=> .tup [.str "of",.str x]
 | .un a=> .tup [.str "not",ee a]
 | .bin o a b=> .tup [.str o.w,ee a,ee b]
noncomputable def Sm.dp:Sm->Nat
 | .num _=>1 | .of _=>1 | .un a=>a.dp+1 | .bin _ a b=>max a.dp b.dp+1
noncomputable def Sm.ok:Sm->Prop
 | .num n=>0<=n/\n<=999 | .of _=>True | .un a=>a.ok | .bin _ a b=>a.ok/\b.ok
noncomputable def Sm.val(f:Str->Int):Sm->Int
 | .num n=>n
 | .of x=>f x
 | .un a=>if a.val f=0 then 1 else 0
 | .bin o a b=>o.f (a.val f) (b.val f)
theorem Sm.kK {f : Str -> Int} (hf : ∀ x, 0 <= f x /\ f x <= 999) : ∀ e : Sm, e.ok -> 0 <= e.val f /\ e.val f <= 999
  | .num n, h => h
  | .of x, _ => hf x
  | .un a, _ => by unfold Sm.val; split <;> omega
  | .bin o a b, _ => by
    unfold Sm.val Bo.f;cases o <;> simp only <;> first
      | (split <;> omega)
      | exact ⟨Int.emod_nonneg _ (by decide), by have := Int.emod_lt_of_pos (Sm.val f a + Sm.val f b) (show (0 : Int) < 1000 by decide); omega⟩
      | exact ⟨Int.emod_nonneg _ (by decide), by have := Int.emod_lt_of_pos (Sm.val f a - Sm.val f b) (show (0 : Int) < 1000 by decide); omega⟩
      | exact ⟨Int.emod_nonneg _ (by decide), by have := Int.emod_lt_of_pos (Sm.val f a * Sm.val f b) (show (0 : Int) < 1000 by decide); omega⟩
theorem du: ∀ e:Sm,(ee e).flat=true
 | .num n=>rfl
 | .of x=>rfl
 | .un a=>by simp[ee,PV.flat,PV.dE,du a]
 | .bin o a b=>by simp[ee,PV.flat,PV.dE,du a,du b]
abbrev Pk:=List (Str × Int)
noncomputable def lg(ps:Pk):PV:= .tup (ps.map eO)
noncomputable def fP:Pk->Str->Int
 | [],_=>0
 | q::r,x=>if q.1=x then q.2 else fP r x
structure Ql(ps:Pk):Prop where
 yr:(ps.map (·.1)).Pairwise hI
 mem: ∀ q∈ps,1<=q.2/\q.2<=999
 len:ps.length<=20
theorem AH: ∀{ps:Pk},(∀ q∈ps,1<=q.2/\q.2<=999)-> ∀ x,0<=fP ps x/\fP ps x<=999
 | [],_,x=>by simp[fP]
 | q::r,h,x=>by
  unfold fP;split
  . have:=h q List.mem_cons_self;omega
  . exact AH (λz hz=>h z (List.mem_cons_of_mem _ hz)) x
theorem j8: ∀(ps:Pk),PV.dE (ps.map eO)=true
 | []=>rfl
 | q::r=>by simp[PV.dE,eO,PV.flat,j8 r]
noncomputable def bO(ps:Pk):List (Key × PV):=ps.map λq=>(.inr q.1,.int q.2)
theorem kg: ∀(ps:Pk),ir (ps.map eO)=some (bO ps)
 | []=>rfl
 | q::r=>by simp[ir,eO,pairP?,gJ,kg r,bO]
theorem vB: ∀(ps:Pk)(x:Str),(bV (bO ps) (.inr x)).getD (.int 0)= .int (fP ps x)
 | [],x=>rfl
 | q::r,x=>by
  unfold fP bO;rw[List.map_cons];by_cases e:q.1=x
  . rw[if_pos e,e,rE];rfl
  . rw[if_neg e,tm (by simpa using e)];exact vB r x
theorem B8: ∀{kvs:List (Key × PV)}{k:Key}{v:PV},k ∉ kvs.map (λkv:Key × PV=>kv.1)->eQ kvs k v=kvs++[(k,v)]:=by
 intro kvs k v h;unfold eQ;rw[if_neg];simp only[List.any_eq_true,decide_eq_true_eq,not_exists,not_and];exact λx hx e=>h (List.mem_map.mpr ⟨x,hx,e⟩)
theorem sV: ∀(more acc:List (Key × PV)),((acc++more).map (λkv:Key × PV=>kv.1)).Nodup->bH acc more=acc++more
 | [],acc,_=>by simp[bH]
 | p::r,acc,h=>by
  have h2:p.1 ∉ acc.map (λkv:Key × PV=>kv.1):=by
   rw[List.map_append,List.nodup_append] at h;intro m;exact h.2.2 p.1 m p.1 (by simp) rfl
  show bH (eQ acc p.1 p.2) r=_;rw [B8 h2,sV r _ (by simpa using h)];simp
theorem kb {ps : Pk} (nd : (ps.map (·.1)).Nodup) : bH [] (bO ps) = bO ps := by
  rw [sV _ _ ?_]; · rfl
  have e : ([] ++ bO ps).map (λkv : Key × PV => kv.1) = (ps.map (·.1)).map (Sum.inr (α := Int)) := by unfold bO; rw [List.nil_append, List.map_map, List.map_map]; rfl
  rw [e];exact List.Pairwise.map _ (λa b z e => z (Sum.inr.inj e)) nd
section
variable {pg:Tb} (T:cP pg)
include T
theorem NZ(k:Nat)(o:Bo)(a b:Int)(h:PH)(ha:0<=a/\a<=999):run pg (k+1) "joined_worth" [.str o.w,.int a,.int b] h= .ok (.int (o.f a b)) h:=by
 rw[run_eq T.ny rfl];cases o<;>simp? [cT,fg,Bo.w,Bo.f]
 all_goals split<;>rfl
theorem ig(h:PH){ps:Pk}(nd:(ps.map (·.1)).Nodup)(hm: ∀ q∈ps,1<=q.2/\q.2<=999)(hl:ps.length<=1000): ∀(e:Sm)(k:Nat),e.ok->e.dp<=k->run pg (k+1) "worth" [ee e,lg ps] h= .ok (.int (e.val (fP ps))) h
 | .num n,k,ho,hk=>by
  rw[run_eq T.mn rfl];simp? [fO,iQ,ee,Sm.val]
 | .of x,k,ho,hk=>by
  rw[run_eq T.mn rfl];have hz:(ps.map eO).length < 16777216:=by rw[List.length_map];omega
  simp? [fO,iQ,ee,lg,Sm.val,kg,kb nd,vB,qY hz];exact bP rfl
 | .un a,k,ho,hk=>by
  obtain⟨k,rfl⟩: ∃ j,k=j+1:=⟨k - 1,by unfold Sm.dp at hk;omega⟩
  have ih:=ig h nd hm hl a k ho (by unfold Sm.dp at hk;omega);rw[run_eq T.mn rfl];simp? [fO,iQ,ee,Sm.val,ih];split<;>rfl
 | .bin o a b,k,ho,hk=>by
  obtain⟨k,rfl⟩: ∃ j,k=j+1:=⟨k - 1,by unfold Sm.dp at hk;omega⟩
  have ih1:=ig h nd hm hl a k ho.1 (by unfold Sm.dp at hk;omega);have ih2:=ig h nd hm hl b k ho.2 (by unfold Sm.dp at hk;omega);have ij:=NZ T k o (a.val (fP ps)) (b.val (fP ps)) h (Sm.kK (AH hm) a ho.1);rw[run_eq T.mn rfl];cases o<;>(simp only[Bo.w] at ij;simp? [fO,iQ,ee,Sm.val,ih1,ih2,ij,Bo.w])
end
theorem og{h:PH}{n:Nat}{os:Pk}(e:h[n]?=some (.lst (os.map eO)))(hl:os.length < 64)(nd:(os.map (·.1)).Nodup):br [.ref n] h= .ok (.ref h.length) (h++[.lst ((j7 os).map eO)]):=by
 have hi:itemsOf h (.ref n)=some (os.map eO):=by simp[itemsOf,de,e]
 show eT [.ref n] h=_;unfold eT;simp only[hi];cases os with
 | nil=>simp[fR,aP,j7]
 | cons q r =>
  have e1:fR ((q::r).map eO)=none:=rfl
  rw[e1]
  simp only[rR]
  rw[if_pos ⟨hl,nd⟩]
noncomputable def lay(ps:Pk)(x:Str)(v:Int):Pk:=j7 (ps.filter (λq=> !decide (q.1=x))++if v=0 then[] else[(x,v)])
theorem gK(ps:Pk):(j7 ps).Perm ps:=List.mergeSort_perm ps _
theorem ya{ps:Pk}(nd:(ps.map (·.1)).Nodup):((j7 ps).map (·.1)).Pairwise hI:=by
 have h1:(j7 ps).Pairwise λa b=>lU a.1 b.1=true:=List.pairwise_mergeSort (λa b c=>gu a.1 b.1 c.1) (λa b=>by simpa using iM a.1 b.1) ps;have h2:((j7 ps).map (·.1)).Nodup:=((gK ps).map _).nodup_iff.mpr nd
 rw[List.pairwise_map];rw[List.nodup_iff_pairwise_ne,List.pairwise_map] at h2;refine h1.imp₂ (λa b z1 z2=>?_) h2;rcases kE z2 with z | z
 . exact z
 . unfold lU at z1;simp[z] at z1
theorem k7{ps:Pk}(nd:(ps.map (·.1)).Nodup): ∀ q∈ps,fP ps q.1=q.2:=by
 induction ps with
 | nil=>intro q m;cases m
 | cons p r ih =>
  intro q m
  rw[List.map_cons] at nd;rw[List.nodup_cons] at nd
  unfold fP
  rcases List.mem_cons.mp m with e | m
  . rw[if_pos (by rw[e]),e]
  . rw[if_neg (λz=>nd.1 (by rw[z];exact List.mem_map.mpr ⟨q,m,rfl⟩))];exact ih nd.2 q m
theorem jw{ps:Pk}{x:Str}(h:x ∉ ps.map (·.1)):fP ps x=0:=by
 induction ps with
 | nil=>rfl
 | cons p r ih =>
  rw[List.map_cons,List.mem_cons,not_or] at h
  unfold fP
  rw[if_neg (λz=>h.1 z.symm)]
  exact ih h.2
theorem E7{ps qs:Pk}(p:ps.Perm qs)(nd:(qs.map (·.1)).Nodup)(x:Str):fP ps x=fP qs x:=by
 by_cases hx:x∈qs.map (·.1)
 . obtain⟨q,m,rfl⟩:=List.mem_map.mp hx;rw[k7 nd q m,k7 ((p.map (·.1)).nodup_iff.mpr nd) q (p.mem_iff.mpr m)]
 . rw[jw hx,jw λz=>hx ((p.map (·.1)).mem_iff.mp z)]
theorem ud{ps:Pk}(nd:(ps.map (·.1)).Nodup)(x:Str)(v:Int):((ps.filter (λq=> !decide (q.1=x))++if v=0 then[] else[(x,v)]).map (·.1)).Nodup:=by
 rw[List.map_append];refine List.nodup_append.mpr ⟨(List.Sublist.map _ List.filter_sublist).nodup nd,?_,λa ha b hb e=>?_⟩
 . split<;>simp
 . split at hb
   . cases hb
   . obtain⟨q,m,rfl⟩:=List.mem_map.mp ha;have hb':b=x:=by simpa using hb
     have:=(List.mem_filter.mp m).2;simp only[Bool.not_eq_true',decide_eq_false_iff_not] at this;exact this (e.trans hb')
theorem Be{ps:Pk}(nd:(ps.map (·.1)).Nodup)(x:Str)(v:Int)(y:Str):fP (lay ps x v) y=if y=x then v else fP ps y:=by
 rw[lay,E7 (gK _) (ud nd x v)];have app: ∀(l m:Pk)(y:Str),fP (l++m) y=if y∈l.map (·.1) then fP l y else fP m y:=by
  intro l m y
  induction l with
  | nil=>rfl
  | cons q r ih =>
   rw[List.cons_append,fP,fP,ih]
   by_cases e:q.1=y
   . rw[if_pos e,if_pos e,if_pos (by rw[List.map_cons,e];exact List.mem_cons_self)]
   . have e': ¬ y=q.1:=λz=>e z.symm;rw[if_neg e,if_neg e];simp only[List.map_cons,List.mem_cons,e',false_or]
 have fil: ∀ l:Pk,¬ y=x->fP (l.filter λq=> !decide (q.1=x)) y=fP l y:=by
  intro l ne
  induction l with
  | nil=>rfl
  | cons q r ih =>
   by_cases e:q.1=x
   . rw[List.filter_cons_of_neg (by simp[e]),fP,if_neg (λz=>ne (z.symm.trans e)),ih]
   . rw[List.filter_cons_of_pos (by simp[e]),fP,fP,ih]
 rw[app];by_cases e:y=x
 . rw[if_pos e,if_neg]
   . split
     . rename_i z;rw[z];rfl
     . rw[fP,if_pos e.symm]
   . intro z;obtain⟨q,m,rfl⟩:=List.mem_map.mp z;have:=(List.mem_filter.mp m).2;simp[e] at this
 . rw[if_neg e,fil ps e];split
   . rfl
   . rename_i z;have h0:fP ps y=0:=by
      rw[<- fil ps e];exact jw z
     rw[h0];split
     . rfl
     . rw[fP,if_neg (λz=>e z.symm)];rfl
structure fJ(L:List Str)(ps:Pk):Prop where
 yr:(ps.map (·.1)).Pairwise hI
 mem: ∀ q∈ps,q.1∈L/\1<=q.2/\q.2<=999
theorem fJ.nd{L:List Str}{ps:Pk}(h:fJ L ps):(ps.map (·.1)).Nodup:=h.yr.imp λ{a b} z e=>by subst e;exact gY _ z
theorem fJ.len{L:List Str}{ps:Pk}(h:fJ L ps):ps.length<=L.length:=by
 have:=List.Nodup.length_le_of_subset h.nd (l₂ :=L) (λx hx=>by obtain⟨q,hq,rfl⟩:=List.mem_map.mp hx;exact(h.mem q hq).1);simpa using this
theorem fJ.nil{L:List Str}:fJ L []:=⟨.nil,λq m=>by cases m⟩
theorem qR{L:List Str}{ps:Pk}{x:Str}{v:Int}(h:fJ L ps)(hx:x∈L)(h0:0<=v)(h9:v<=999):fJ L (lay ps x v):=by
 refine⟨ya (ud h.nd x v),λq m=>?_⟩;rcases List.mem_append.mp ((gK _).mem_iff.mp m) with m | m
 . exact h.mem q (List.mem_filter.mp m).1
 . split at m
   . cases m
   . rw[List.mem_singleton.mp m];exact⟨hx,show 1<=v by omega,h9⟩
theorem Ir{L:List Str}{ps qs:Pk}(h1:fJ L ps)(h2:fJ L qs)(e: ∀ x,fP ps x=fP qs x):ps=qs:=by
 have key: ∀{ps qs:Pk},fJ L ps->fJ L qs->(∀ x,fP ps x=fP qs x)-> ∀ q∈ps,q∈qs:=λ{ps qs} h1 h2 e q m=>by
  have h:=k7 h1.nd q m;have hx:q.1∈qs.map (·.1):=Decidable.byContradiction λz=>by
   have:=(h1.mem q m).2.1;rw[e,jw z] at h;omega
  obtain⟨q',m',e'⟩:=List.mem_map.mp hx;have h':=k7 h2.nd q' m';rw[e',<- e,h] at h';have:q'=q:=Prod.ext e' h'.symm;rw[<- this];exact m'
 refine iT (le:=λa b=>hI a.1 b.1) (λa _ b _ z1 z2=>absurd z2 (iP z1)) ?_ (by simpa [List.pairwise_map] using h1.yr) (by simpa [List.pairwise_map] using h2.yr);have n1:ps.Nodup:=List.Pairwise.of_map (R:=(· ≠ ·)) (·.1) (λa b z e=>z (by rw[e])) h1.nd
 have n2:qs.Nodup:=List.Pairwise.of_map (R:=(· ≠ ·)) (·.1) (λa b z e=>z (by rw[e])) h2.nd
 exact(List.perm_ext_iff_of_nodup n1 n2).mpr λq=>⟨key h1 h2 e q,key h2 h1 (λx=>(e x).symm) q⟩
theorem kz(x:Str): ∀ ps:Pk,(ps.filterMap λq=>if q.1=x then none else some (eO q))=(ps.filter (λq=> !decide (q.1=x))).map eO
 | []=>rfl
 | q::r=>by
  by_cases z:q.1=x
  . rw[List.filterMap_cons_none (by simp[z]),List.filter_cons_of_neg (by simp[z]),kz x r]
  . rw[List.filterMap_cons_some (by rw[if_neg z]),List.filter_cons_of_pos (by simp[z]),List.map_cons,kz x r]
section
variable{pg:Tb}(T:cP pg)
include T
theorem vY(k:Nat)(h:PH){ps:Pk}(nd:(ps.map (·.1)).Nodup)(x:Str)(v:Int)(hl:(lay ps x v).length<=20)(hp:ps.length<=1000):run pg (k+1) "laid" [lg ps,.str x,.int v] h= .ok (lg (lay ps x v)) h:=by
 rw[run_eq T.Gh rfl];have e1:jK ⟨none,ps.map eO⟩ (bU 1 (gN 4) (aq (ag fX (ag ar (ab 4) (eC (.int 0))) (ab 1))) (ab 4) (run pg k) [some (.tup (ps.map eO)),some (.str x),some (.int v),none]) (ps.map eO) [] h= .ok ([]++ps.filterMap λq=>if q.1=x then none else some (eO q)) h:=by
  refine fY rfl ps [] (λq m=>?_) (by simp;omega);simp? [eO];by_cases z:q.1=x<;>simp[z]
 rw[kz,List.nil_append] at e1;have hl':(ps.filter (λq=> !decide (q.1=x))++if v=0 then[] else[(x,v)]).length<=20:=by rw[<- (gK _).length_eq];exact hl
 have nd':=ud nd x v;have hz:((ps.filter (λq=> !decide (q.1=x))).map eO).length < 16777216:=by
  rw[List.length_map];have:=List.length_filter_le (λq:Str × Int=> !decide (q.1=x)) ps;omega
 by_cases hv:v=0
 . subst hv;rw[if_pos rfl,List.append_nil] at hl' nd';have s1:=og (h:=h++[.lst ((ps.filter (λq=> !decide (q.1=x))).map eO)]) (n:=h.length) aY (Nat.lt_of_le_of_lt hl' (by decide)) nd';simp? [kH,ql,lg,e1,s1];rw[bP (v:= .tup _) (j8 _),lay,if_pos rfl,List.append_nil]
 . rw[if_neg hv] at hl' nd';have s1:=og (h:=h++[.lst ((ps.filter (λq=> !decide (q.1=x))++[(x,v)]).map eO)]) (n:=h.length) aY (Nat.lt_of_le_of_lt hl' (by decide)) nd';rw[List.map_append] at s1;simp? [kH,ql,lg,e1,hv,xb hz];rw[show List.map eO [(x,v)]=[PV.tup [PV.str x,PV.int v]] from rfl] at s1;simp? [s1,List.map_cons,List.map_nil];rw[bP (v:= .tup _) (j8 _),lay,if_neg hv]
end
inductive Rw where
 | let_ (x:Str) (e:Sm) | leap (k:Int) (e:Sm) | take (l:Str) | free (l:Str) | get (x b:Str) | put (b:Str) (e:Sm)
 | send (l:Str) (e:Sm) | fetch (x l:Str) | say (d:Str) (e:Sm) | clock (x:Str) | lot (x:Str) (n:Int) | hear (x d:Str)
noncomputable def Rw.w:Rw->Str
 | .let_ _ _=> "let" | .leap _ _=> "leap" | .take _=> "take" | .free _=> "free" | .get _ _=> "get" | .put _ _=> "put"
 | .send _ _=> "send" | .fetch _ _=> "fetch" | .say _ _=> "say" | .clock _=> "clock" | .lot _ _=> "lot" | .hear _ _=> "hear"
noncomputable def Rw.ps:Rw->List PV
 | .let_ x e=>[.str x,ee e] | .leap k e=>[.int k,ee e] | .take l=>[.str l] | .free l=>[.str l] | .get x b=>[.str x,.str b] | .put b e=>[.str b,ee e]
 | .send l e=>[.str l,ee e] | .fetch x l=>[.str x,.str l] | .say d e=>[.str d,ee e] | .clock x=>[.str x] | .lot x n=>[.str x,.int n] | .hear x d=>[.str x,.str d]
noncomputable def cZ(r:Rw):PV:= .tup (.str r.w::r.ps)
noncomputable def au(rs:List Rw):PV:= .tup (rs.map cZ)
structure aR where
 row:Nat
 ps:Pk
 held:List Str
noncomputable def cH(hs:List Str):PV:= .tup (hs.map PV.str)
noncomputable def ao(s:aR):PV:= .tup [.int s.row,lg s.ps,cH s.held]
noncomputable def own(held:List Str):Rw->Bool
 | .take l=>decide (l∈held)
 | .free l=> !decide (l∈held)
 | .let_ _ _=>true
 | .leap _ _=>true
 | _=>false
noncomputable def mN(e:Sm):Prop:=e.ok/\e.dp<=7
noncomputable def cO(L:List Str)(n:Nat):Rw->Prop
 | .let_ x e=>x∈L/\mN e
 | .leap k e=>0<=k/\k<=n/\mN e
 | .put _ e=>mN e
 | .send _ e=>mN e
 | .say _ e=>mN e
 | .get x _=>x∈L
 | .fetch x _=>x∈L
 | .clock x=>x∈L
 | .lot x m=>x∈L/\2<=m/\m<=1000
 | .hear x _=>x∈L
 | _=>True
noncomputable def gA(x:Str):Prop:=PyData.strOk x=true/\x.length<=20
noncomputable def jY:Rw->Prop
 | .put x _=>gA x
 | .send x _=>gA x
 | .say x _=>gA x
 | .get _ x=>gA x
 | .fetch _ x=>gA x
 | .hear _ x=>gA x
 | .take x=>gA x
 | .free x=>gA x
 | _=>True
noncomputable def behind(s:aR):Rw->aR
 | .let_ x e=>⟨s.row+1,lay s.ps x (e.val (fP s.ps)),s.held⟩
 | .leap k e=>if e.val (fP s.ps)=0 then⟨s.row+1,s.ps,s.held⟩ else⟨k.toNat,s.ps,s.held⟩
 | _=>⟨s.row+1,s.ps,s.held⟩
structure cG(L:List Str)(rs:List Rw)(s:aR):Prop where
 pk:fJ L s.ps
 le:s.row<=rs.length
theorem kA: ∀ hs:List Str,PV.dE (hs.map PV.str)=true
 | []=>rfl
 | x::r=>by rw[List.map_cons,PV.dE,kA r];rfl
theorem fk(s:aR):(ao s).flat=true:=by
 simp[ao,PV.flat,PV.dE,lg,j8,cH,kA]
theorem mU(r:Rw):(cZ r).flat=true:=by
 cases r<;>simp[cZ,Rw.ps,PV.flat,PV.dE,du]
theorem pC: ∀ rs:List Rw,PV.dE (rs.map cZ)=true
 | []=>rfl
 | x::r=>by rw[List.map_cons,PV.dE,pC r,mU];rfl
noncomputable def bf(rs:List Rw)(s:aR):Bool:=match rs[s.row]? with
 | none=>true
 | some r=> !own s.held r
noncomputable def aW(rs:List Rw):Nat->aR->aR
 | 0,s=>if bf rs s then s else⟨rs.length,s.ps,s.held⟩
 | n+1,s=>if bf rs s then s else match rs[s.row]? with
  | none=>s
  | some r=>aW rs n (behind s r)
theorem eX{L:List Str}{rs:List Rw}{s:aR}{r:Rw}(h:cG L rs s)(hr:cO L rs.length r)(e:rs[s.row]?=some r):cG L rs (behind s r):=by
 have hlt:s.row < rs.length:=(List.getElem?_eq_some_iff.mp e).1;cases r with
 | let_ x e0 =>
  have hv:=Sm.kK (AH λq m=>(h.pk.mem q m).2) e0 hr.2.1
  exact⟨qR h.pk hr.1 hv.1 hv.2,hlt⟩
 | leap j e0 =>
  show cG L rs (if e0.val (fP s.ps)=0 then⟨s.row+1,s.ps,s.held⟩ else⟨j.toNat,s.ps,s.held⟩)
  split
  . exact ⟨h.pk,hlt⟩
  . exact ⟨h.pk,by have:=hr.2.1;have:=hr.1;show Int.toNat _<=rs.length;omega⟩
 | _=>exact ⟨h.pk,hlt⟩
theorem jP {L : List Str} {rs : List Rw} (hr : ∀ r ∈ rs, cO L rs.length r) : ∀ (n : Nat) (s : aR), cG L rs s -> cG L rs (aW rs n s)
  | 0, s, h => by unfold aW; split; · exact h
                  . exact ⟨h.pk, Nat.le_refl _⟩
  | n + 1, s, h => by
    unfold aW; split
    . exact h
    . split
      . exact h
      . rename_i r e; exact jP hr n _ (eX h (hr r (List.mem_of_getElem? e)) e)
theorem eJ{rs:List Rw}{s:aR}{r:Rw}(e:rs[s.row]?=some r):eP (rs.map cZ) (s.row:Int)=some (cZ r):=P3.dJ rfl (by rw[List.getElem?_map,e];rfl)
section
variable{pg:Tb}(T:cP pg)
include T
theorem GF(k:Nat)(h:PH)(r:Rw)(held:List Str):run pg (k+1) "is_own_row" [cZ r,cH held] h= .ok (.bl (own held r)) h:=by
 rw[run_eq T.qh rfl];cases r<;>simp? [dQ,gM,cZ,Rw.w,Rw.ps,cH,own]
theorem yo(k:Nat)(h:PH){L:List Str}(hL:L.length<=20){rs:List Rw}{s:aR}{r:Rw}(hs:cG L rs s)(hr:cO L rs.length r)(hrow:rs[s.row]?=some r):run pg (k+9) "behind_own_row" [cZ r,ao s] h= .ok (ao (behind s r)) h:=by
 have nd:=hs.pk.nd;have hm: ∀ q∈s.ps,1<=q.2/\q.2<=999:=λq m=>(hs.pk.mem q m).2;have hl:=hs.pk.len;have w: ∀ e:Sm,mN e->run pg (k+8) "worth" [ee e,lg s.ps] h= .ok (.int (e.val (fP s.ps))) h:=λe he=>ig T h nd hm (by omega) e (k+7) he.1 (by have:=he.2;omega);rw[run_eq T.kW rfl];cases r with
 | let_ x e =>
  have hb:=(eX hs hr hrow).pk.len
  have l1:=vY T (k+7) h nd x (e.val (fP s.ps)) (Nat.le_trans hb hL) (by omega)
  simp? [bw,cw,cZ,Rw.w,Rw.ps,ao,behind,w e hr.2,l1]
  rfl
 | leap j e =>
  simp? [bw,cw,cZ,Rw.w,Rw.ps,ao,behind,w e hr.2.2]
  by_cases z:e.val (fP s.ps)=0
  . simp only[z,if_true];rfl
  . have:((j.toNat:Nat):Int)=j:=by have:=hr.1;omega
    simp only[z,if_false,this]
 | _ =>
  simp? [bw,cw,cZ,Rw.w,Rw.ps,ao,behind]
  rfl
theorem kj(k:Nat)(h:PH){rs:List Rw}{s:aR}(hs:s.row<=rs.length):run pg (k+2) "is_rested" [au rs,ao s] h= .ok (.bl (bf rs s)) h:=by
 rw[run_eq T.tq rfl];cases e:rs[s.row]? with
 | none =>
  have:s.row=rs.length:=by have:=List.getElem?_eq_none_iff.mp e;omega
  have r1:bf rs s=true:=by unfold bf;rw[e]
  simp? [dB,fM,au,ao,r1,this,List.length_map]
 | some r =>
  have hlt:s.row < rs.length:=(List.getElem?_eq_some_iff.mp e).1
  have ne: ¬ (s.row:Int)=(rs.length:Int):=by omega
  have ix:=nF (h:=h) (eJ e)
  have o1:=GF T k h r s.held
  simp? [dB,fM,au,ao,bf,e,ne,ix,o1,List.length_map]
noncomputable def fZ(p:PV)(j:Int)(rs:List Rw):Prop:= ∃ a b c d hs nm,p= .tup [a,b,c,d,.tup hs]/\eP hs j=some (.tup [nm,au rs])
theorem jq(k:Nat)(h:PH){p:PV}{j:Int}{rs:List Rw}(hp:fZ p j rs):run pg (k+1) "rows_of" [p,.int j] h= .ok (au rs) h:=by
 obtain⟨a,b,c,d,hs,nm,rfl,e⟩:=hp;rw[run_eq T.xx rfl];simp? [gq,kP,nF e]
theorem iL(k:Nat)(h:PH){L:List Str}(hL:L.length<=20){p:PV}{j:Int}{rs:List Rw}(hp:fZ p j rs)(hr: ∀ r∈rs,cO L rs.length r){s:aR}(hs:cG L rs s):run pg (k+10) "rested" [p,.int j,ao s] h= .ok (ao (aW rs 200 s)) h:=by
 have rest: ∀(xs xs0:List PV)(s0 s:aR)(tv:Option PV),cG L rs s ->
   ((bF ⟨none,xs0⟩ (bW (gN 5) (ai (bt (aq (ah "is_rested" (aa (ab 3) (aa (ab 4) ae)))) (az (ab 4)) bA) (ak (ah "behind_own_row" (aa (ag ar (ab 3) (ag ar (ab 4) (eC (.int 0)))) (aa (ab 4) ae))) (gN 4))) (run pg (k+9))) xs
    [some p,some (.int j),some (ao s0),some (au rs),some (ao s),tv] h).bind
    (Au (ai (bt (aq (ah "is_rested" (aa (ab 3) (aa (ab 4) ae)))) (az (ab 4)) bA) (az (aA (aa (eB bN (aa (ab 3) ae)) (aa (ag ar (ab 4) (eC (.int 1))) (aa (ag ar (ab 4) (eC (.int 2))) ae)))))) (run pg (k+9))))= .ok (.rt (ao (aW rs xs.length s))) h:=by
  intro xs xs0 s0
  induction xs with
  | nil =>
   intro s tv hs
   have q:=kj T (k+7) h hs.le
   simp? [iu,aW,List.length_nil,q]
   cases bf rs s<;>simp? [ao,au,List.length_map,aW]
  | cons x xs ih =>
   intro s tv hs
   have q:=kj T (k+7) h hs.le
   rw[ft]
   simp? [aW,List.length_cons,q]
   cases e:rs[s.row]? with
   | none =>
    have r1:bf rs s=true:=by unfold bf;rw[e]
    simp? [r1,q9]
   | some r =>
    cases r1:bf rs s with
    | true=>simp? [r1,q9]
    | false =>
     have hm:=hr r (List.mem_of_getElem? e)
     have ix:=nF (h:=h) (eJ e)
     have be:=yo T k h hL hs hm e
     have i0:ar (ao s) (.int 0) h= .ok (.int s.row) h:=rfl
     have ix':ar (au rs) (.int s.row) h= .ok (cZ r) h:=ix
     simp? [r1,i0,ix',be,cB,ih _ _ (eX hs hm e)]
 rw[run_eq T.zR rfl];have ro:=jq T (k+8) h hp;simp? [hX,mX,ro];have hh:=rest (bq 0 200) (bq 0 200) s s none hs;have len:(bq 0 200).length=200:=rfl;rw[len] at hh;exact(congrArg (fin h) hh).trans (by rw[AJ,lP])
end
noncomputable def Rw.a9:Rw->Option Str
 | .get x _=>some x | .fetch x _=>some x | .clock x=>some x | .lot x _=>some x | .hear x _=>some x
 | _=>none
noncomputable def Rw.sum:Rw->Option Sm
 | .let_ _ e=>some e | .leap _ e=>some e | .put _ e=>some e | .send _ e=>some e | .say _ e=>some e
 | _=>none
theorem cO.sum{L:List Str}{n:Nat}{r:Rw}(h:cO L n r){e:Sm}(q:r.sum=some e):mN e:=by
 cases r<;>cases q
 . exact h.2
 . exact h.2.2
 . exact h
 . exact h
 . exact h
noncomputable def PV.num:PV->Int
 | .int i=>i
 | _=>0
noncomputable def after(s:aR)(v:PV):Rw->aR
 | .get x _=>⟨s.row+1,lay s.ps x (PV.num v),s.held⟩
 | .fetch x _=>⟨s.row+1,lay s.ps x (PV.num v),s.held⟩
 | .clock x=>⟨s.row+1,lay s.ps x (PV.num v),s.held⟩
 | .lot x _=>⟨s.row+1,lay s.ps x (PV.num v),s.held⟩
 | .hear x _=>⟨s.row+1,lay s.ps x (PV.num v),s.held⟩
 | .take l=>⟨s.row+1,s.ps,aP (s.held++[l])⟩
 | .free l=>⟨s.row+1,s.ps,s.held.filter λz=> !decide (z=l)⟩
 | _=>⟨s.row+1,s.ps,s.held⟩
noncomputable def bE(s:aR):Rw->PV
 | .let_ _ e=> .tup [.str "let",.str "",.int (e.val (fP s.ps))]
 | .leap k e=> .tup [.str "leap",.int k,.int (e.val (fP s.ps))]
 | .take l=> .tup [.str "take",.str l,.non]
 | .free l=> .tup [.str "free",.str l,.non]
 | .get _ b=> .tup [.str "get",.str b,.non]
 | .put b e=> .tup [.str "put",.str b,.int (e.val (fP s.ps))]
 | .send l e=> .tup [.str "send",.str l,.int (e.val (fP s.ps))]
 | .fetch _ l=> .tup [.str "fetch",.str l,.non]
 | .say d e=> .tup [.str "say",.str d,.int (e.val (fP s.ps))]
 | .clock _=> .tup [.str "clock",.str "",.non]
 | .lot _ n=> .tup [.str "lot",.str "",.int n]
 | .hear _ d=> .tup [.str "hear",.str d,.non]
noncomputable def b9(rs:List Rw)(s:aR):PV:=match rs[s.row]? with
 | none=> .non
 | some r=>bE s r
theorem dW: ∀ ss:List Str,fR (ss.map PV.str)=some ss
 | []=>rfl
 | x::r=>by rw[List.map_cons,fR,dW r];rfl
theorem uf{h:PH}{ss:List Str}(hl:ss.length < 64):br [.tup (ss.map PV.str)] h= .ok (.ref h.length) (h++[.lst ((aP ss).map PV.str)]):=by
 simp only[br,dW,if_pos hl]
theorem Az{xs:List PV}{x:PV}:dZ (x::xs) (some 1) none=xs:=by rw[P3.fF (by decide)];rfl
noncomputable def Rw.parts:Rw->List PV
 | .let_ _ _=>[.str "pocket",.str "sum"] | .leap _ _=>[.str "target",.str "sum"] | .get _ _=>[.str "pocket",.str "box"] | .put _ _=>[.str "box",.str "sum"]
 | .take _=>[.str "lock"] | .free _=>[.str "lock"] | .send _ _=>[.str "lane",.str "sum"] | .fetch _ _=>[.str "pocket",.str "lane"] | .say _ _=>[.str "door",.str "sum"]
 | .clock _=>[.str "pocket"] | .lot _ _=>[.str "pocket",.str "chances"] | .hear _ _=>[.str "pocket",.str "door"]
theorem Cm(r:Rw):bV eF (.inr r.w)=some (.ktup r.parts):=by cases r<;>(simp only[Rw.w,Rw.parts];decide +kernel)
theorem iG(l:Str): ∀ ss:List Str,(ss.filterMap λz=>if z=l then none else some (PV.str z))=(ss.filter (λz=> !decide (z=l))).map PV.str
 | []=>rfl
 | q::r=>by
  by_cases z:q=l
  . rw[List.filterMap_cons_none (by simp[z]),List.filter_cons_of_neg (by simp[z]),iG l r]
  . rw[List.filterMap_cons_some (by rw[if_neg z]),List.filter_cons_of_pos (by simp[z]),List.map_cons,iG l r]
noncomputable def toG:MG:=(gT 2 (aG (gN 7) (aG (gN 8) dA)))
noncomputable def uj:MS:=(bt (aq (ag cm (ab 7) (eC (.str "sum")))) (ak (ah "worth" (aa (ab 8) (aa (ag ar (ab 2) (eC (.int 1))) ae))) (gN 6)) (bt (aq (ag cm (ab 7) (eC (.str "chances")))) (ak (ab 8) (gN 6)) (bt (aq (ag fX (ab 7) (eC (.str "pocket")))) (ak (ab 8) (gN 5)) bA)))
section
variable{c:CF}{h:PH}{a0 a1 b0 b1 a3 a4 a5 a6 a7 a8 x:Option PV}{y s1 w:PV}
theorem oG(q: ∀ g,ar s1 (.int 1) g= .ok b g)(z:c "worth" [y,b] h= .ok w h):bW toG uj c (.tup [.str "sum",y]) [a0,a1,some s1,a3,a4,a5,a6,a7,a8] h= .ok (.nx [a0,a1,some s1,a3,a4,a5,some w,some (.str "sum"),some y]) h:=by
 simp? [toG,uj,q,z]
theorem LQ:bW toG uj c (.tup [.str "chances",y]) [a0,a1,b0,a3,a4,a5,a6,a7,a8] h= .ok (.nx [a0,a1,b0,a3,a4,a5,some y,some (.str "chances"),some y]) h:=by
 simp? [toG,uj]
theorem wH:bW toG uj c (.tup [.str "pocket",y]) [a0,a1,b0,a3,a4,a5,a6,a7,a8] h= .ok (.nx [a0,a1,b0,a3,a4,a5,a6,some (.str "pocket"),some y]) h:=by
 simp? [toG,uj]
theorem nS{p:Str}(q: ¬ p= "sum" /\ ¬ p= "chances" /\ ¬ p= "pocket"):bW toG uj c (.tup [.str p,y]) [a0,a1,b0,a3,a4,a5,a6,a7,a8] h= .ok (.nx [a0,a1,b0,a3,a4,some y,a6,some (.str p),some y]) h:=by
 simp? [toG,uj,q.1,q.2.1,q.2.2]
end
theorem CJ{c:CF}{h:PH}(s:aR)(r:Rw)(w: ∀ e:Sm,r.sum=some e->c "worth" [ee e,lg s.ps] h= .ok (.int (e.val (fP s.ps))) h)(xs:List PV)(a0 a1 a3 a4:Option PV) :
  ∃(t v:PV)(u7 u8:Option PV),bE s r= .tup [.str r.w,t,v]/\bF ⟨none,xs⟩ (bW toG uj c) ((r.parts.zip r.ps).map λp=> .tup [p.1,p.2]) [a0,a1,some (ao s),a3,a4,some (.str ""),some .non,none,none] h= .ok (.nx [a0,a1,some (ao s),a3,a4,some t,some v,u7,u8]) h:=by
 have i1: ∀ g,ar (ao s) (.int 1) g= .ok (lg s.ps) g:=λg=>rfl;have lp1: ∀{x:PV}{e e1:ax},bW toG uj c x e h= .ok (.nx e1) h->bF ⟨none,xs⟩ (bW toG uj c) [x] e h= .ok (.nx e1) h:=λq=>by rw[ft,q,dU,cB,iu]
 have lp2: ∀{x y:PV}{e e1 e2:ax},bW toG uj c x e h= .ok (.nx e1) h->bW toG uj c y e1 h= .ok (.nx e2) h->bF ⟨none,xs⟩ (bW toG uj c) [x,y] e h= .ok (.nx e2) h:=λq q2=>by rw[ft,q,dU,cB,ft,q2,dU,cB,iu]
 cases r with
 | let_ x e=>exact⟨_,_,_,_,rfl,lp2 wH (oG i1 (w e rfl))⟩
 | leap x e=>exact⟨_,_,_,_,rfl,lp2 (nS (by decide +kernel)) (oG i1 (w e rfl))⟩
 | put x e=>exact⟨_,_,_,_,rfl,lp2 (nS (by decide +kernel)) (oG i1 (w e rfl))⟩
 | send x e=>exact⟨_,_,_,_,rfl,lp2 (nS (by decide +kernel)) (oG i1 (w e rfl))⟩
 | say x e=>exact⟨_,_,_,_,rfl,lp2 (nS (by decide +kernel)) (oG i1 (w e rfl))⟩
 | take x=>exact⟨_,_,_,_,rfl,lp1 (nS (by decide +kernel))⟩
 | free x=>exact⟨_,_,_,_,rfl,lp1 (nS (by decide +kernel))⟩
 | clock x=>exact⟨_,_,_,_,rfl,lp1 wH⟩
 | lot x n=>exact⟨_,_,_,_,rfl,lp2 wH LQ⟩
 | _=>exact⟨_,_,_,_,rfl,lp2 wH (nS (by decide +kernel))⟩
theorem rw_0(r:Rw)(g:PH):ar (cZ r) (.int 0) g= .ok (.str r.w) g:=Nz
theorem rw_pk{r:Rw}{x:Str}(h:r.a9=some x)(g:PH):ar (cZ r) (.int 1) g= .ok (.str x) g:=by cases r<;>cases h<;>exact vq
theorem cO.pk {L:List Str} {n:Nat} {r:Rw} (h:cO L n r) {x:Str} (q:r.a9=some x):x∈L:=by
 cases r<;>cases q<;>first | exact h | exact h.1
theorem tQ {s:aR} {v:PV} {r:Rw} {x:Str} (h:r.a9=some x):after s v r=⟨s.row+1,lay s.ps x (PV.num v),s.held⟩:=by cases r<;>cases h<;>rfl
theorem Fw {r:Rw} {x:Str} (h:r.a9=some x):r.w∈(["get", "fetch", "clock", "lot", "hear"]:List Str)∧ ¬ r.w= "take" /\ ¬ r.w= "free" :=by cases r<;>cases h<;>(simp only [Rw.w];decide +kernel)
theorem rw_cls (r:Rw):(∃ x,r.a9=some x)∨(∃ l,r= .take l)∨(∃ l,r= .free l)∨((¬ r.w∈(["get", "fetch", "clock", "lot", "hear"]:List Str)∧ ¬ r.w= "take" /\ ¬ r.w= "free")∧ ∀ s v,after s v r=⟨s.row+1,s.ps,s.held⟩):=by
 cases r with
 | take l=>exact .inr (.inl ⟨l,rfl⟩)
 | free l=>exact .inr (.inr (.inl ⟨l,rfl⟩))
 | get x _=>exact .inl ⟨x,rfl⟩
 | fetch x _=>exact .inl ⟨x,rfl⟩
 | clock x=>exact .inl ⟨x,rfl⟩
 | lot x _=>exact .inl ⟨x,rfl⟩
 | hear x _=>exact .inl ⟨x,rfl⟩
 | _=>exact .inr (.inr (.inr ⟨by simp only[Rw.w];decide +kernel,λ_ _=>rfl⟩))
section
variable{pg:Tb}(T:cP pg)
include T
theorem lI(k:Nat)(h:PH){L:List Str}(hL:L.length<=20){p:PV}{j:Int}{rs:List Rw}(hp:fZ p j rs)(hr: ∀ r∈rs,cO L rs.length r){s:aR}(hs:cG L rs s):run pg (k+10) "touch_of" [p,.int j,ao s] h= .ok (b9 rs s) h:=by
 have nd:=hs.pk.nd;have hm: ∀ q∈s.ps,1<=q.2/\q.2<=999:=λq m=>(hs.pk.mem q m).2;have hl:=hs.pk.len;have w: ∀ e:Sm,mN e->run pg (k+9) "worth" [ee e,lg s.ps] h= .ok (.int (e.val (fP s.ps))) h:=λe he=>ig T h nd hm (by omega) e (k+8) he.1 (by have:=he.2;omega);have ro:=jq T (k+8) h hp;have ro':run pg (k+9) "rows_of" [p,.int j] h= .ok (.tup (rs.map cZ)) h:=ro;rw[run_eq T.uT rfl];cases e:rs[s.row]? with
 | none =>
  have:s.row=rs.length:=by have:=List.getElem?_eq_none_iff.mp e;have:=hs.le;omega
  have t1:b9 rs s= .non:=by unfold b9;rw[e]
  simp? [dX,gD,ao,t1,this,ro',List.length_map]
 | some r =>
  have hlt:s.row < rs.length:=(List.getElem?_eq_some_iff.mp e).1
  have ne: ¬ (s.row:Int)=(rs.length:Int):=by omega
  have ix:=nF (h:=h) (eJ e)
  have hrr:=hr r (List.mem_of_getElem? e)
  have t1:b9 rs s=bE s r:=by unfold b9;rw[e]
  rw[t1]
  have w': ∀ e:Sm,r.sum=some e->run pg (k+9) "worth" [ee e,lg s.ps] h= .ok (.int (e.val (fP s.ps))) h:=λe q=>w e (hrr.sum q)
  obtain⟨t,v,u7,u8,et,lp⟩:=CJ (h:=h) s r w' ((r.parts.zip r.ps).map λp=> .tup [p.1,p.2]) (some p) (some (.int j)) (some (.tup (rs.map cZ))) (some (cZ r))
  have r_0:=λg=>rw_0 r g
  have i0: ∀ g,ar (ao s) (.int 0) g= .ok (.int s.row) g:=λg=>rfl
  have sl: ∀ g,Ck (cZ r) (some 1) none g= .ok (.tup r.ps) g:=λg=>by unfold cZ;rw[LH,Az]
  have at_r:ar (.tup (rs.map cZ)) (.int s.row) h= .ok (cZ r) h:=ix
  rw[et]
  unfold toG uj at lp
  simp? [dX,gD,i0,ro',ne,at_r,r_0,sl,Cm,lp,List.length_map]
theorem mT(k:Nat)(h:PH){L:List Str}(hL:L.length<=20){p:PV}{j:Int}{rs:List Rw}(hp:fZ p j rs)(hr: ∀ r∈rs,cO L rs.length r){s:aR}(hs:cG L rs s)(hh:s.held.length<=60){r:Rw}(e:rs[s.row]?=some r){v:PV}(hv: ∀ x,r.a9=some x-> ∃ i:Int,v= .int i/\0<=i/\i<=999):run pg (k+11) "seat_behind" [p,.int j,ao s,v] h= .ok (ao (aW rs 200 (after s v r))) h:=by
 have ro:=jq T (k+9) h hp;have ro':run pg (k+10) "rows_of" [p,.int j] h= .ok (.tup (rs.map cZ)) h:=ro;have hlt:s.row < rs.length:=(List.getElem?_eq_some_iff.mp e).1;have ix:=nF (h:=h) (eJ e);have hrr:=hr r (List.mem_of_getElem? e);have ink: ∀ a:Str,jI (.str a) (.ktup [(.str "get"),(.str "fetch"),(.str "clock"),(.str "lot"),(.str "hear")]) h= .ok (.bl (decide (a∈(["get", "fetch", "clock", "lot", "hear"]:List Str)))) h:=λa=>in_K (ss:=["get", "fetch", "clock", "lot", "hear"]);rw [run_eq T.oW rfl];have r0:run pg (k+10) "rested" [p,.int j,.tup [.int ((s.row:Int)+1),lg s.ps,cH s.held]] h= .ok (ao (aW rs 200 ⟨s.row+1,s.ps,s.held⟩)) h:=iL T k h hL hp hr (s:=⟨s.row+1,s.ps,s.held⟩) ⟨hs.pk,hlt⟩;have r_0:=λg=>rw_0 r g;have at_r:ar (.tup (rs.map cZ)) (.int s.row) h= .ok (cZ r) h:=ix;rcases rw_cls r with⟨x,hx⟩ | ⟨l,rfl⟩ | ⟨l,rfl⟩ | ⟨⟨n5,nt,nf⟩,af⟩
 . obtain⟨i,rfl,h0,h9⟩:=hv x hx;have li:=qR hs.pk (hrr.pk hx) h0 h9;have l1:=vY T (k+9) h hs.pk.nd x i (Nat.le_trans li.len hL) (by have:=hs.pk.len;omega);have r1:run pg (k+10) "rested" [p,.int j,.tup [.int ((s.row:Int)+1),lg (lay s.ps x i),cH s.held]] h=_:=iL T k h hL hp hr (s:=⟨s.row+1,lay s.ps x i,s.held⟩) ⟨li,hlt⟩;have n5:=(Fw hx).1;have x1:=λg=>rw_pk hx g;rw[tQ hx];simp? [bL,cI,ao,ro',at_r,r_0,x1,ink,n5,l1,r1,PV.num]
 . have r1:=iL T k (h++[.lst ((aP (s.held++[l])).map PV.str)]) hL hp hr (s:=⟨s.row+1,s.ps,aP (s.held++[l])⟩) ⟨hs.pk,hlt⟩;have r1':run pg (k+10) "rested" [p,.int j,.tup [.int ((s.row:Int)+1),lg s.ps,.tup ((aP (s.held++[l])).map PV.str)]] (h++[.lst ((aP (s.held++[l])).map PV.str)])=_:=r1;have s1:=uf (h:=h) (ss:=s.held++[l]) (by simp;omega);rw[List.map_append] at s1;have hl2:(s.held.map PV.str).length+1<=16777216:=by simp;omega
   have s1':br [.tup (s.held.map PV.str++[.str l])] h= .ok (.ref h.length) (h++[.lst ((aP (s.held++[l])).map PV.str)]):=s1;simp? [bL,cI,ao,cH,ro',ix,cZ,Rw.w,Rw.ps,ink,List.mem_cons,List.not_mem_nil,or_false,or_true,true_or,false_or,after,List.length_map,s1',r1'];exact bP (fk _)
 . have e1: ∀ e:ax,e=[some p,some (.int j),some (ao s),some v,some (cZ (.free l)),some (lg s.ps),some (cH s.held)]->jK ⟨none,s.held.map PV.str⟩ (bU 1 (gN 7) (aq (ag fX (ab 7) (ag ar (ab 4) (eC (.int 1))))) (ab 7) (run pg (k+10)) e) (s.held.map PV.str) [] h= .ok ((s.held.filter (λz=> !decide (z=l))).map PV.str) h:=by
    rintro _ rfl;rw[<- iG];refine(fY rfl s.held [] (λq m=>?_) (by simp;omega)).trans (by rw[List.nil_append]);simp? [cZ,Rw.w,Rw.ps];by_cases z:q=l<;>simp[z]
   have e1':=e1 _ rfl;have r1:=iL T k (h++[.lst ((s.held.filter (λz=> !decide (z=l))).map PV.str)]) hL hp hr (s:=⟨s.row+1,s.ps,s.held.filter (λz=> !decide (z=l))⟩) ⟨hs.pk,hlt⟩;have r1':run pg (k+10) "rested" [p,.int j,.tup [.int ((s.row:Int)+1),lg s.ps,.tup ((s.held.filter (λz=> !decide (z=l))).map PV.str)]] (h++[.lst ((s.held.filter (λz=> !decide (z=l))).map PV.str)])=_:=r1;simp only[cZ,ao,cH,Rw.w,Rw.ps] at e1';simp? [bL,cI,ao,cH,ro',ix,cZ,Rw.w,Rw.ps,ink,List.mem_cons,List.not_mem_nil,or_false,or_true,true_or,false_or,after,List.length_map,e1',r1'];exact bP (fk _)
 . rw[af];simp? [bL,cI,ao,ro',at_r,r_0,ink,n5,nt,nf,r0]
end
noncomputable def aI(ns:List Int):PO:= .kD (ns.map PV.int)
theorem vQ:(10:Int) ^ Int.toNat 18=1000000000000000000:=by decide +kernel
theorem qX:(10:Int) ^ 18=1000000000000000000:=by decide +kernel
theorem yS{ns:List Int}{i:Int}(h0:0<=i)(h1:i < ns.length): ∃ v:Int,eP (ns.map PV.int) i=some (.int v):=by
 obtain⟨n,en⟩:=Int.eq_ofNat_of_zero_le h0;subst en;have hn:n < ns.length:=by omega
 exact⟨ns[n],P3.dJ rfl (by rw[List.getElem?_map,List.getElem?_eq_getElem hn];rfl)⟩
section
variable{pg:Tb}(T:cP pg)
include T
theorem B9(j:Nat){h:PH}{r:Nat}{ns:List Int}(hr:h[r]?=some (aI ns))(hn:ns.length<=63){k m:Int}(k0:0<=k)(k9:k<=1000000)(m0:0 < m)(m9:m<=1000000000): ∃ v:Int,0<=v/\v < m/\run pg (j+1) "_law_draw" [.ref r,.int k,.int m] h= .ok (.int v) h:=by
 have fin1: ∀ v:Int,run pg (j+1) "_law_draw" [.ref r,.int k,.int m] h= .ok (.int (v % m)) h-> ∃ v:Int,0<=v/\v < m/\run pg (j+1) "_law_draw" [.ref r,.int k,.int m] h= .ok (.int v) h:=λv e=>⟨_,Int.emod_nonneg _ (by omega),Int.emod_lt_of_pos _ m0,e⟩
 have key: ∃ v:Int,run pg (j+1) "_law_draw" [.ref r,.int k,.int m] h= .ok (.int (v % m)) h:=by
  rw[run_eq T.tZ rfl];by_cases z:ns.length=0
  . have hz: ¬ (0:Int) < (ns.length:Int):=by omega
    have z18: ¬ (1000000000000000000:Int)<=0:=by omega
    simp? [cz,dC,hr,aI,List.length_map,hz,vQ,qX,z18,mB];exact⟨_,rfl⟩
  . have hz:(0:Int) < (ns.length:Int):=by omega
    obtain⟨v,hv⟩:=yS (ns:=ns) (i:=k % ns.length) (Int.emod_nonneg _ (by omega)) (Int.emod_lt_of_pos _ hz);have loop: ∀(xs xs0:List PV)(a:Int)(o:Option PV),∃(b:Int)(o':Option PV),bF ⟨none,xs0⟩ (bW (gN 5) (ak (ag mR (ab 4) (eC (.int 1000003))) (gN 4)) (run pg j)) xs [some (.ref r),some (.int k),some (.int m),some (.int v),some (.int a),o,none] h= .ok (.nx [some (.ref r),some (.int k),some (.int m),some (.int v),some (.int b),o',none]) h:=by
     intro xs xs0
     induction xs with
     | nil=>intro a o;exact⟨a,o,rfl⟩
     | cons x xs ih =>
      intro a o
      obtain⟨b,o',e⟩:=ih (a / 1000003) (some x)
      refine⟨b,o',?_⟩
      rw[ft]
      simp? [cB,e]
    have hm60:0<=k / (ns.length:Int) % 60/\k / (ns.length:Int) % 60 < 60:=⟨Int.emod_nonneg _ (by omega),Int.emod_lt_of_pos _ (by omega)⟩
    by_cases z18:(1000000000000000000:Int)<=v
    . obtain⟨b,o',e⟩:=loop (bq 0 (Int.toNat (k / (ns.length:Int) % 60))) (bq 0 (Int.toNat (k / (ns.length:Int) % 60))) v none;by_cases b0:0 < b
      . simp? [cz,dC,hr,aI,List.length_map,hz,hv,vQ,qX,z18,e,b0,mB];exact⟨_,rfl⟩
      . simp? [cz,dC,hr,aI,List.length_map,hz,hv,vQ,qX,z18,e,b0,mB];exact⟨_,rfl⟩
    . simp? [cz,dC,hr,aI,List.length_map,hz,hv,vQ,qX,z18,mB];exact⟨_,rfl⟩
 obtain⟨v,e⟩:=key;exact fin1 v e
end
noncomputable def aF(k:Int)(o:Option Int):PO:= .dct ((.inr "script",.ref 0)::(.inr "k",.int k)::(match o with | none=>[] | some l=>[(.inr "left",.int l)]))
theorem Cr{k:Int}{o:Option Int}{n:Nat}(hn:0 < n):(aF k o).i3 n=true:=by cases o<;>simp[aF,PO.i3,PV.jE,PV.i3,hn]
theorem c7{ns:List Int}{k k':Int}{o o':Option Int}{g g':PH}{v:PV}(hv:v.flat=true):settle (aI ns::aF k o::g) v (aI ns::aF k' o'::(g++g'))= .ok v (aI ns::aF k' o'::g) :=
 ve (h:=aI ns::aF k o::g) (g:=g') (i:=1) (o:=aF k o) (o':=aF k' o') hv rfl rfl (Cr (by simp))
theorem oh{ns:List Int}{k k':Int}{o o':Option Int}{g:PH}{v:PV}:settle (aI ns::aF k o::g) v (aI ns::aF k' o'::g)= .ok v (aI ns::aF k' o'::g) :=
 lu (h:=aI ns::aF k o::g) (i:=1) (o:=aF k o) (o':=aF k' o')
section
variable{ns:List Int}{k l v:Int}{o:Option Int}{g:PH}
theorem Lw{h:PH}:FE (.str "k") h (some (aF k o))= .ok (.int k) h:=by cases o<;>simp[aF,EZ,bV,aV,mH]
theorem uR{h:PH}:FE (.str "script") h (some (aF k o))= .ok (.ref 0) h:=by cases o<;>simp[aF,EZ,bV,aV,mH]
theorem iF{h:PH}:FE (.str "left") h (some (aF k (some l)))= .ok (.int l) h:=by simp[aF,EZ,bV,aV,mH]
theorem Md{h:PH}{n:Nat}:zH n (.str "k") (.int v) h (some (aF k o))= .ok () (h.set n (aF v o)):=by
 unfold aF;rw[nI (by cases o<;>simp)];cases o<;>simp[eQ,aV]
theorem nU{h:PH}{n:Nat}:zH n (.str "left") (.int v) h (some (aF k o))= .ok () (h.set n (aF k (some v))):=by
 unfold aF;rw[nI (by cases o<;>simp)];cases o<;>simp[eQ,aV]
end
section
variable{pg:Tb}(T:cP pg)
include T
theorem aX(j:Nat)(g:PH){ns:List Int}(hn:ns.length<=63)(o:Option Int){k:Int}(m:Int)(k0:0<=k)(k9:k < 1000000)(m0:0 < m)(m9:m<=1000000000): ∃ v:Int,0<=v/\v < m/\run pg (j+2) "_law_pick" [.ref 1,.int m] (aI ns::aF k o::g)= .ok (.int v) (aI ns::aF (k+1) o::g):=by
 obtain⟨v,h0,h1,e⟩:=B9 T j (h:=aI ns::aF (k+1) o::g) (r:=0) rfl hn (k:=k+1) (by omega) (by omega) m0 m9;refine⟨v,h0,h1,?_⟩;rw[run_eq T.rT rfl];simp? [er,ip,Lw,Md,uR,e,oh]
end
noncomputable def bS:Nat->Int
 | 0=>3
 | d+1=>2+2*bS d
theorem yC: ∀ d,3<=bS d
 | 0=>by decide
 | d+1=>by have:=yC d;unfold bS;omega
theorem Cu{v:Int}(h0:0<=v)(h1:v < 5): ∃ o:Bo,eP [PV.str "add",.str "sub",.str "mul",.str "less",.str "same"] v=some (.str o.w):=by
 have:v=0\/v=1\/v=2\/v=3\/v=4:=by omega
 rcases this with rfl | rfl | rfl | rfl | rfl
 . exact⟨.add,rfl⟩
 . exact⟨.sub,rfl⟩
 . exact⟨.mul,rfl⟩
 . exact⟨.less,rfl⟩
 . exact⟨.same,rfl⟩
theorem JV{v w:Int}(h0:0<=v)(h1:v < 5)(w0:0<=w)(w1:w < 1000): ∃ n:Int,0<=n/\n<=999/\eP [PV.int 0,.int 1,.int 2,.int 999,.int w] v=some (.int n):=by
 have:v=0\/v=1\/v=2\/v=3\/v=4:=by omega
 rcases this with rfl | rfl | rfl | rfl | rfl
 . exact⟨0,by decide,by decide,rfl⟩
 . exact⟨1,by decide,by decide,rfl⟩
 . exact⟨2,by decide,by decide,rfl⟩
 . exact⟨999,by decide,by decide,rfl⟩
 . exact⟨w,w0,by omega,rfl⟩
theorem jz{ss:List Str}{v:Int}(h0:0<=v)(h1:v < ss.length): ∃ x∈ss,eP (ss.map PV.str) v=some (.str x):=by
 obtain⟨n,en⟩:=Int.eq_ofNat_of_zero_le h0;subst en;have hn:n < ss.length:=by omega
 exact⟨ss[n],List.getElem_mem hn,P3.dJ rfl (by rw[List.getElem?_map,List.getElem?_eq_getElem hn];rfl)⟩
section
variable{pg:Tb}(T:cP pg)
include T
theorem vG(j:Nat){ns:List Int}(hn:ns.length<=63){np:Nat}{ps:List Str}(p0:0 < ps.length)(p9:ps.length<=1000)(deep w k:Int)(o:Option Int)(g:PH)(k0:0<=k)(k9:k+2<=1000000)(hp:g[np]?=some (.lst (ps.map PV.str)))(u v:Option PV) :
  ∃(e:Sm)(k':Int)(g':PH),e.ok/\e.dp=1/\k<=k'/\k'<=k+2/\ai (bt (aq (ag cm (ag eA (ab 3) (eC (.int 2))) (eC (.int 0)))) (az (aA (aa (eC (.str "num")) (aa (ag ar (aH (aa (eC (.int 0)) (aa (eC (.int 1)) (aa (eC (.int 2)) (aa (eC (.int 999)) (aa (ah "_law_pick" (aa (ab 0) (aa (eC (.int 1000)) ae))) ae)))))) (ah "_law_pick" (aa (ab 0) (aa (eC (.int 5)) ae)))) ae)))) bA)
  (az (aA (aa (eC (.str "of")) (aa (ag ar (ab 1) (ah "_law_pick" (aa (ab 0) (aa (eB bN (aa (ab 1) ae)) ae)))) ae)))) (run pg (j+2)) [some (.ref 1),some (.ref (np+1+1)),some (.int deep),some (.int w),u,v] (aI ns::aF k o::g)= .ok (.rt (ee e)) (aI ns::aF k' o::(g++g')):=by
 by_cases z:w % 2=0
 . obtain⟨a,a0,a1,ea⟩:=aX T j g hn o (k:=k) 1000 k0 (by omega) (by decide) (by decide);obtain⟨b,b0,b1,eb⟩:=aX T j (g++[.lst [.int 0,.int 1,.int 2,.int 999,.int a]]) hn o (k:=k+1) 5 (by omega) (by omega) (by decide) (by decide);obtain⟨n,n0,n1,en⟩:=JV b0 b1 a0 a1;refine⟨.num n,k+1+1,[.lst [.int 0,.int 1,.int 2,.int 999,.int a]],⟨n0,n1⟩,rfl,by omega,by omega,?_⟩;simp? [z,ea,eb,en,ee]
 . obtain⟨a,a0,a1,ea⟩:=aX T j g hn o (k:=k) ps.length k0 (by omega) (by omega) (by omega);obtain⟨x,hx,ex⟩:=jz a0 a1;refine⟨.of x,k+1,[],trivial,rfl,by omega,by omega,?_⟩;simp? [z,ea,hp,ex,ee,List.length_map,List.append_nil]
theorem w6(j:Nat){ns:List Int}(hn:ns.length<=63){np:Nat}{ps:List Str}(p0:0 < ps.length)(p9:ps.length<=1000): ∀(d:Nat)(deep:Int),deep+d=5-> ∀(k l:Int)(g:PH),0<=k->k+bS d<=1000000->g[np]?=some (.lst (ps.map PV.str)) ->
  ∃(e:Sm)(k' l':Int),e.ok/\e.dp<=d+1/\k<=k'/\k'<=k+bS d/\run pg (j+d+3) "_law_sum_in" [.ref 1,.ref (np+1+1),.int deep] (aI ns::aF k (some l)::g)= .ok (ee e) (aI ns::aF k' (some l')::g):=by
 intro d
 induction d with
 | zero =>
  intro deep hd k l g k0 k9 hp
  have hd5: ¬ deep < 5:=by omega
  simp only[bS] at k9
  obtain⟨w,w0,w1,ew⟩:=aX T j g hn (some l) (k:=k) 9 k0 (by omega) (by decide) (by decide)
  obtain⟨e,k',g',h1,h2,h3,h4,h5⟩:=vG T j hn p0 p9 deep w (k+1) (some l) g (by omega) (by omega) hp none none
  refine⟨e,k',l,h1,by omega,by omega,by simp only[bS];omega,?_⟩
  rw[run_eq T.d7 rfl]
  simp? [bh,bK,Nat.add_zero,ew,hd5,↓h5,c7 (du e)]
 | succ d ih =>
  intro deep hd k l g k0 k9 hp
  have hd5:deep < 5:=by omega
  have b3:=yC d
  simp only[bS] at k9
  have hlt:=bD hp
  obtain⟨w,w0,w1,ew⟩:=aX T (j+d+1) g hn (some l) (k:=k) 9 k0 (by omega) (by decide) (by decide)
  by_cases c1:2 < w/\1 < l
  . obtain⟨a,a0,a1,ea⟩:=aX T (j+d+1) (g++[.lst [.str "add",.str "sub",.str "mul",.str "less",.str "same"]]) hn (some (l - 2)) (k:=k+1) 5 (by omega) (by omega) (by decide) (by decide);obtain⟨o,eo⟩:=Cu a0 a1;have hp':(g++[.lst [.str "add",.str "sub",.str "mul",.str "less",.str "same"]])[np]?=some (.lst (ps.map PV.str)):=by rw[aU hlt];exact hp
    obtain⟨e1,k1,l1,q1,q2,q3,q4,q5⟩:=ih (deep+1) (by omega) (k+1+1) (l - 2) _ (by omega) (by omega) hp';obtain⟨e2,k2,l2,r1,r2,r3,r4,r5⟩:=ih (deep+1) (by omega) k1 l1 _ (by omega) (by omega) hp';refine⟨.bin o e1 e2,k2,l2,⟨q1,r1⟩,by unfold Sm.dp;omega,by omega,by simp only[bS];omega,?_⟩;rw[show j+(d+1)+3=(j+d+3)+1 by omega,run_eq T.d7 rfl];have c11:=c1.1;have c12:=c1.2;simp? [bh,bK,ew,hd5,c11,c12,iF,nU,ea,eo,q5,r5];exact c7 (v:=ee (.bin o e1 e2)) (du _)
  . by_cases c2:w=2/\0 < l
    . obtain⟨c21,c22⟩:=c2;subst c21;obtain⟨e1,k1,l1,q1,q2,q3,q4,q5⟩:=ih (deep+1) (by omega) (k+1) (l - 1) g (by omega) (by omega) hp;refine⟨.un e1,k1,l1,q1,by unfold Sm.dp;omega,by omega,by simp only[bS];omega,?_⟩;rw[show j+(d+1)+3=(j+d+3)+1 by omega,run_eq T.d7 rfl];simp? [bh,bK,ew,hd5,c22,iF,nU,q5];exact oh (v:=ee (.un e1))
    . obtain⟨e,k',g',h1,h2,h3,h4,h5⟩:=vG T (j+d+1) hn p0 p9 deep w (k+1) (some l) g (by omega) (by omega) hp none none;refine⟨e,k',l,h1,by omega,by omega,by simp only[bS];omega,?_⟩;rw[show j+(d+1)+3=(j+d+3)+1 by omega,run_eq T.d7 rfl];by_cases d1:2 < w
      . have d2: ¬ 1 < l:=λz=>c1 ⟨d1,z⟩;have d3: ¬ w=2:=by omega
        simp? [bh,bK,ew,hd5,d1,d2,d3,iF,↓h5,c7 (du e)]
      . by_cases d3:w=2
        . subst d3;have d2: ¬ 0 < l:=λz=>c2 ⟨rfl,z⟩;simp? [bh,bK,ew,hd5,d1,d2,iF,↓h5,c7 (du e)]
        . simp? [bh,bK,ew,hd5,d1,d3,iF,↓h5,c7 (du e)]
omit T in
theorem Fh{v:Int}(h0:0<=v)(h1:v < 4): ∃ n:Int,eP [PV.int 0,.int 2,.int 5,.int 11] v=some (.int n):=by
 have:v=0\/v=1\/v=2\/v=3:=by omega
 rcases this with rfl | rfl | rfl | rfl<;>exact⟨_,rfl⟩
theorem nL(j:Nat){ns:List Int}(hn:ns.length<=63){np:Nat}{ps:List Str}(p0:0 < ps.length)(p9:ps.length<=1000)(k:Int)(o:Option Int)(g:PH)(k0:0<=k)(k9:k+80<=1000000)(hp:g[np]?=some (.lst (ps.map PV.str))) :
  ∃(e:Sm)(k':Int)(o':Option Int),mN e/\k<=k'/\k'<=k+80/\run pg (j+8) "_law_sum" [.ref 1,.ref (np+1+1)] (aI ns::aF k o::g)= .ok (ee e) (aI ns::aF k' o'::g):=by
 obtain⟨a,a0,a1,ea⟩:=aX T (j+5) (g++[.lst [.int 0,.int 2,.int 5,.int 11]]) hn o (k:=k) 4 k0 (by omega) (by decide) (by decide);obtain⟨l,el⟩:=Fh a0 a1;have hp':(g++[.lst [.int 0,.int 2,.int 5,.int 11]])[np]?=some (.lst (ps.map PV.str)):=by rw[aU (bD hp)];exact hp
 have b4:bS 4=78:=by decide
 obtain⟨e,k',l',q1,q2,q3,q4,q5⟩:=w6 T j hn p0 p9 4 1 (by decide) (k+1) l _ (by omega) (by omega) hp';refine⟨e,k',some l',⟨q1,by omega⟩,by omega,by omega,?_⟩;rw[run_eq T.ue rfl];simp? [fz,jr,ea,el,nU,q5,c7 (du e)]
end
theorem oE{f:Nat->Option PyData}: ∀ ss:List Str,cA f (ss.map PV.str)=some (ss.map PyData.str)
 | []=>rfl
 | x::r=>by rw[List.map_cons,cA,oE r];rfl
theorem sA{h:PH}{n k:Nat}{ss:List Str}(e:h[n]?=some (.lst (ss.map PV.str))):dat (k+1) h (.ref n)=some (.list (ss.map PyData.str)):=by
 unfold dat;simp only[hU,e,oE,Option.map_some]
theorem ne_nil{h:PH}{n m:Nat}{ss:List Str}(e1:h[n]?=some (.lst (ss.map PV.str)))(e2:h[m]?=some (.lst []))(ok: ∀ x∈ss,PyData.strOk x=true):fX (.ref n) (.ref m) h= .ok (.bl (!decide (ss=[]))) h:=by
 have d1:=sA (k:=5) e1;have d2:=sA (k:=5) (ss:=[]) (n:=m) e2;have sc:gZ (.ref n) (.ref m)=false:=rfl;have dp: ∀ xs:List Str,PyData.canLay0 (.list (xs.map PyData.str))=xs.all PyData.strOk:=λxs=>by
  rw[PyData.canLay0,PyProof.Rows.canLayAll_strs']
 have al:alike (.ref n) (.ref m) h=some (decide (ss=[])):=by
  unfold alike;rw[sc,d1,d2];have c1:(PyData.list (ss.map PyData.str)).canLay0=true:=by rw[dp];exact List.all_eq_true.mpr ok
  have c2:(PyData.list (([]:List Str).map PyData.str)).canLay0=true:=by rw[dp];rfl
  have c3:min (PyData.list (ss.map PyData.str)).depth (PyData.list (([]:List Str).map PyData.str)).depth<=64:=Nat.le_trans (Nat.min_le_right _ _) (by decide);simp only[Bool.false_eq_true,if_false,c1,c2,c3,and_self,if_true];cases ss with
  | nil=>rfl
  | cons x r=>rfl
 have nd:eg h (.ref n)=false:=by simp only[eg,e1]
 unfold fX;rw[al,nd];rfl
noncomputable def jA(s1 s2 s3 s4:List Str)(x:Str):Prop:=x= "let" \/x= "leap" \/x= "clock" \/x= "lot" \/(s1≠[]/\(x= "get" \/x= "put"))\/(s2≠[]/\(x= "take" \/x= "free"))\/(s3≠[]/\(x= "send" \/x= "fetch"))\/(s4≠[]/\(x= "say" \/x= "hear"))
theorem Af(c:CF){H:PH}{nd cc q b:Nat}{nm:List (Key × PV)}{ks qs ss:List Str}{sort:Str}(e1:H[nd]?=some (.dct nm))(e2:bV nm (.inr sort)=some (.ref b))(e3:H[b]?=some (.lst (ss.map PV.str)))(e4:H[cc]?=some (.lst (ks.map PV.str)))(e5:H[q]?=some (.lst (qs.map PV.str)))
  (hs: ∀ x∈ss,PyData.strOk x=true) (hl:ks.length+qs.length+qs.length<=1000) (a0 a2 a3 u5 u6 n7 n8 n9 n10:Option PV) :
  ∃ g' c',(H++g')[c']?=some (.lst ((if ss=[] then ks else ks++qs++qs).map PV.str))/\bW (gT 2 (aG (gN 5) (aG (gN 6) dA))) (bt (aq (ag fX (ag ar (ab 1) (ab 5)) (aH ae))) (ak (ag aE (ag aE (ab 4) (ab 6)) (ab 6)) (gN 4)) bA) c (.tup [.str sort,.ref q]) [a0,some (.ref nd),a2,a3,some (.ref cc),u5,u6,n7,n8,n9,n10] H =
   .ok (.nx [a0,some (.ref nd),a2,a3,some (.ref c'),some (.str sort),some (.ref q),n7,n8,n9,n10]) (H++g'):=by
 have l3:=bD e3;have l4:=bD e4;have l5:=bD e5;have ne:=ne_nil (h:=H++[.lst []]) (n:=b) (m:=H.length) (ss:=ss) (by rw[aU l3];exact e3) aY hs;by_cases z:ss=[]
 . refine⟨[.lst []],cc,by rw[if_pos z,aU l4];exact e4,?_⟩;simp? [e1,e2,ne,z]
 . have ad1:=gS (h:=H++[.lst []]) (n:=cc) (m:=q) (by rw[aU l4];exact e4) (by rw[aU l5];exact e5) (by rw[List.length_map,List.length_map];omega);have ad2:aE (.ref (H.length+(0+1))) (.ref q) (H++[.lst [],.lst (ks.map PV.str++qs.map PV.str)])= .ok (.ref (H.length+(0+1+1))) (H++[.lst [],.lst (ks.map PV.str++qs.map PV.str),.lst (ks.map PV.str++qs.map PV.str++qs.map PV.str)]):=by
    have:=gS (h:=H++[.lst [],.lst (ks.map PV.str++qs.map PV.str)]) (n:=H.length+(0+1)) (m:=q) (xs:=ks.map PV.str++qs.map PV.str) (ys:=qs.map PV.str) (by rw[aJ];rfl) (by rw[aU l5];exact e5) (by rw[List.length_append,List.length_map,List.length_map];omega);simpa using this
   refine⟨[.lst [],.lst (ks.map PV.str++qs.map PV.str),.lst (ks.map PV.str++qs.map PV.str++qs.map PV.str)],H.length+(0+1+1),by rw[if_neg z,aJ,List.map_append,List.map_append];rfl,?_⟩;simp? [e1,e2,ne,z,ad1,ad2]
structure Named(H:PH)(nd:Nat)(s1 s2 s3 s4 s5:List Str):Prop where
 at_: ∃ b1 b2 b3 b4 b5:Nat,H[nd]?=some (.dct [(.inr "box",.ref b1),(.inr "lock",.ref b2),(.inr "lane",.ref b3),(.inr "door",.ref b4),(.inr "hand",.ref b5)]) /\
  H[b1]?=some (.lst (s1.map PV.str))/\H[b2]?=some (.lst (s2.map PV.str))/\H[b3]?=some (.lst (s3.map PV.str))/\H[b4]?=some (.lst (s4.map PV.str))/\H[b5]?=some (.lst (s5.map PV.str))
 ok:(∀ x∈s1,gA x)/\(∀ x∈s2,gA x)/\(∀ x∈s3,gA x)/\(∀ x∈s4,gA x)
 le:s1.length<=10/\s2.length<=10/\s3.length<=10/\s4.length<=10/\s5.length<=10
theorem iY{b1 b2 b3 b4 b5:Nat}:bV [((.inr "box" :Key),PV.ref b1),(.inr "lock",.ref b2),(.inr "lane",.ref b3),(.inr "door",.ref b4),(.inr "hand",.ref b5)] (.inr "box")=some (.ref b1) /\
  bV [((.inr "box" :Key),PV.ref b1),(.inr "lock",.ref b2),(.inr "lane",.ref b3),(.inr "door",.ref b4),(.inr "hand",.ref b5)] (.inr "lock")=some (.ref b2) /\
  bV [((.inr "box" :Key),PV.ref b1),(.inr "lock",.ref b2),(.inr "lane",.ref b3),(.inr "door",.ref b4),(.inr "hand",.ref b5)] (.inr "lane")=some (.ref b3) /\
  bV [((.inr "box" :Key),PV.ref b1),(.inr "lock",.ref b2),(.inr "lane",.ref b3),(.inr "door",.ref b4),(.inr "hand",.ref b5)] (.inr "door")=some (.ref b4) /\
  bV [((.inr "box" :Key),PV.ref b1),(.inr "lock",.ref b2),(.inr "lane",.ref b3),(.inr "door",.ref b4),(.inr "hand",.ref b5)] (.inr "hand")=some (.ref b5):=by
 refine⟨?_,?_,?_,?_,?_⟩<;>simp[bV,aV]
theorem qo{p:Prop}[Decidable p]{ks qs:List Str}{n:Nat}(h:ks.length+qs.length+qs.length<=n):(if p then ks else ks++qs++qs).length<=n:=by
 split
 . omega
 . simp only[List.length_append];omega
theorem rJ{p:Prop}[Decidable p]{ks qs:List Str}{x:Str}(h:x∈(if p then ks else ks++qs++qs)):x∈ks\/(¬ p/\x∈qs):=by
 split at h
 . exact .inl h
 . rename_i z;rcases List.mem_append.1 h with h | h
   . rcases List.mem_append.1 h with h | h
     . exact .inl h
     . exact .inr ⟨z,h⟩
   . exact .inr ⟨z,h⟩
theorem zN (c : CF) {H : PH} {nd : Nat} {s1 s2 s3 s4 s5 : List Str} (hn : Named H nd s1 s2 s3 s4 s5) (a0 a2 a3 n7 n8 n9 n10 : Option PV) :
    ∃ (g' : PH) (c' : Nat) (ks : List Str) (u5 u6 : PV), (H ++ g')[c']? = some (.lst (ks.map PV.str)) /\ 0 < ks.length /\ ks.length <= 100 /\ (∀ x ∈ ks, jA s1 s2 s3 s4 x) /\ ∀ rest : MS,
    ai (ak (aH (aa (eC (.str "let")) (aa (eC (.str "let")) (aa (eC (.str "leap")) (aa (eC (.str "clock")) (aa (eC (.str "lot")) ae)))))) (gN 4))
    (ai (gp (mK (aH (aa (aA (aa (eC (.str "box")) (aa (aH (aa (eC (.str "get")) (aa (eC (.str "put")) ae))) ae))) (aa (aA (aa (eC (.str "lock")) (aa (aH (aa (eC (.str "take")) (aa (eC (.str "free")) ae))) ae))) (aa (aA (aa (eC (.str "lane")) (aa (aH (aa (eC (.str "send")) (aa (eC (.str "fetch")) ae))) ae))) ae))))) (gT 2 (aG (gN 5) (aG (gN 6) dA))) (bt (aq (ag fX (ag ar (ab 1) (ab 5)) (aH ae))) (ak (ag aE (ag aE (ab 4) (ab 6)) (ab 6)) (gN 4)) bA))
    (ai (bt (aq (ag fX (ag ar (ab 1) (eC (.str "door"))) (aH ae))) (ak (ag aE (ab 4) (aH (aa (eC (.str "say")) (aa (eC (.str "hear")) (aa (eC (.str "say")) ae))))) (gN 4)) bA)
    rest)) c [a0, some (.ref nd), a2, a3, none, none, none, n7, n8, n9, n10] H = rest c [a0, some (.ref nd), a2, a3, some (.ref c'), some u5, some u6, n7, n8, n9, n10] (H ++ g') := by
  obtain ⟨b1, b2, b3, b4, b5, e0, e1, e2, e3, e4, e5⟩ := hn.at_;obtain ⟨o1, o2, o3, o4⟩ : (∀ x ∈ s1, PyData.strOk x = true) /\ (∀ x ∈ s2, PyData.strOk x = true) /\ (∀ x ∈ s3, PyData.strOk x = true) /\ (∀ x ∈ s4, PyData.strOk x = true) := ⟨λx m => (hn.ok.1 x m).1, λx m => (hn.ok.2.1 x m).1, λx m => (hn.ok.2.2.1 x m).1, λx m => (hn.ok.2.2.2 x m).1⟩
  obtain ⟨w1, w2, w3, w4, w5⟩ := iY (b1 := b1) (b2 := b2) (b3 := b3) (b4 := b4) (b5 := b5)
  let k0 : List Str := ["let", "let", "leap", "clock", "lot"]
  let G : PH := [.lst (k0.map PV.str), .lst [.str "get", .str "put"], .lst [.str "take", .str "free"], .lst [.str "send", .str "fetch"],
    .lst [.tup [.str "box", .ref (H.length + 1)], .tup [.str "lock", .ref (H.length + 2)], .tup [.str "lane", .ref (H.length + 3)]]]
  have old : ∀ {n : Nat} {o : PO} (g : PH), H[n]? = some o -> (H ++ g)[n]? = some o := λg e => (aU (bD e)).trans e;have oldG : ∀ {n : Nat} {o : PO} (g : PH), (H ++ G)[n]? = some o -> (H ++ (G ++ g))[n]? = some o := λg e => by rw [<- List.append_assoc]; exact (aU (bD e)).trans e
  have G0 : (H ++ G)[H.length]? = some (.lst (k0.map PV.str)) := aY;have G1 : (H ++ G)[H.length + 1]? = some (.lst ((["get", "put"] : List Str).map PV.str)) := aJ;have G2 : (H ++ G)[H.length + 2]? = some (.lst ((["take", "free"] : List Str).map PV.str)) := aJ;have G3 : (H ++ G)[H.length + 3]? = some (.lst ((["send", "fetch"] : List Str).map PV.str)) := aJ;have G4 : (H ++ G)[H.length + 4]? = some (.lst [.tup [.str "box", .ref (H.length + 1)], .tup [.str "lock", .ref (H.length + 2)], .tup [.str "lane", .ref (H.length + 3)]]) := aJ;have fin1 : ∀ g : PH, hW.fH ⟨some (H.length + 4), [.tup [.str "box", .ref (H.length + 1)], .tup [.str "lock", .ref (H.length + 2)], .tup [.str "lane", .ref (H.length + 3)]]⟩ (H ++ (G ++ g)) = true := λg => by
    unfold hW.fH;simp only [oldG g G4, true_or, decide_true]
  obtain ⟨g1, c1, f1, st1⟩ := Af c (H := H ++ G) (nd := nd) (cc := H.length) (q := H.length + 1) (ks := k0) (qs := ["get", "put"]) (sort := "box") (old G e0) w1 (old G e1) G0 G1 o1 (by decide) a0 a2 a3 none none n7 n8 n9 n10;generalize hk1 : (if s1 = [] then k0 else k0 ++ (["get", "put"] : List Str) ++ (["get", "put"] : List Str)) = k1 at f1;have l1 : k1.length <= 20 := by rw [<- hk1]; exact qo (by decide)
  obtain ⟨g2, c2, f2, st2⟩ := Af c (H := H ++ G ++ g1) (nd := nd) (cc := c1) (q := H.length + 2) (ks := k1) (qs := ["take", "free"]) (sort := "lock") (by rw [List.append_assoc]; exact old _ e0) w2 (by rw [List.append_assoc]; exact old _ e2) f1 (by rw [List.append_assoc]; exact oldG g1 G2) o2 (by show k1.length + 2 + 2 <= 1000; omega) a0 a2 a3 (some (.str "box")) (some (.ref (H.length + 1))) n7 n8 n9 n10;generalize hk2 : (if s2 = [] then k1 else k1 ++ (["take", "free"] : List Str) ++ (["take", "free"] : List Str)) = k2 at f2;have l2 : k2.length <= 30 := by rw [<- hk2]; exact qo (by show k1.length + 2 + 2 <= 30; omega)
  obtain ⟨g3, c3, f3, st3⟩ := Af c (H := H ++ G ++ g1 ++ g2) (nd := nd) (cc := c2) (q := H.length + 3) (ks := k2) (qs := ["send", "fetch"]) (sort := "lane") (by rw [List.append_assoc, List.append_assoc]; exact old _ e0) w3 (by rw [List.append_assoc, List.append_assoc]; exact old _ e3) f2 (by rw [List.append_assoc, List.append_assoc]; exact oldG _ G3) o3 (by show k2.length + 2 + 2 <= 1000; omega) a0 a2 a3 (some (.str "lock")) (some (.ref (H.length + 2))) n7 n8 n9 n10;generalize hk3 : (if s3 = [] then k2 else k2 ++ (["send", "fetch"] : List Str) ++ (["send", "fetch"] : List Str)) = k3 at f3;have l3 : k3.length <= 40 := by rw [<- hk3]; exact qo (by show k2.length + 2 + 2 <= 40; omega)
  have in0 : ∀ x ∈ k0, jA s1 s2 s3 s4 x := λx m => by
    rcases List.mem_cons.mp m with e | m
    . exact .inl e
    rcases List.mem_cons.mp m with e | m
    . exact .inl e
    rcases List.mem_cons.mp m with e | m
    . exact .inr (.inl e)
    rcases List.mem_cons.mp m with e | m
    . exact .inr (.inr (.inl e))
    rcases List.mem_cons.mp m with e | m
    . exact .inr (.inr (.inr (.inl e)))
    . cases m
  have two : ∀ {x a b : Str}, x ∈ [a, b] -> x = a ∨ x = b := λm => by simpa using m
  have in1 : ∀ x ∈ k1, jA s1 s2 s3 s4 x := λx m => by
    rw [<- hk1] at m;rcases rJ m with m | ⟨z, m⟩
    . exact in0 x m
    . exact .inr (.inr (.inr (.inr (.inl ⟨z, two m⟩))))
  have K2 : ∀ x ∈ k2, jA s1 s2 s3 s4 x := λx m => by
    rw [<- hk2] at m;rcases rJ m with m | ⟨z, m⟩
    . exact in1 x m
    . exact .inr (.inr (.inr (.inr (.inr (.inl ⟨z, two m⟩)))))
  have yq : ∀ x ∈ k3, jA s1 s2 s3 s4 x := λx m => by
    rw [<- hk3] at m;rcases rJ m with m | ⟨z, m⟩
    . exact K2 x m
    . exact .inr (.inr (.inr (.inr (.inr (.inr (.inl ⟨z, two m⟩))))))
  have p1 : 0 < k1.length := by rw [<- hk1]; split <;> simp [k0]
  have p2 : 0 < k2.length := by
                                   rw [<- hk2]; split
                                   . exact p1
                                   . simp only [List.length_append, List.length_cons]; omega
  have p3 : 0 < k3.length := by
                                   rw [<- hk3]; split
                                   . exact p2
                                   . simp only [List.length_append, List.length_cons]; omega
  have lp : bF ⟨some (H.length + 4), [.tup [.str "box", .ref (H.length + 1)], .tup [.str "lock", .ref (H.length + 2)], .tup [.str "lane", .ref (H.length + 3)]]⟩ (bW (gT 2 (aG (gN 5) (aG (gN 6) dA))) (bt (aq (ag fX (ag ar (ab 1) (ab 5)) (aH ae))) (ak (ag aE (ag aE (ab 4) (ab 6)) (ab 6)) (gN 4)) bA) c) [.tup [.str "box", .ref (H.length + 1)], .tup [.str "lock", .ref (H.length + 2)], .tup [.str "lane", .ref (H.length + 3)]]
      [a0, some (.ref nd), a2, a3, some (.ref H.length), none, none, n7, n8, n9, n10] (H ++ G) = .ok (.nx [a0, some (.ref nd), a2, a3, some (.ref c3), some (.str "lane"), some (.ref (H.length + 3)), n7, n8, n9, n10]) (H ++ (G ++ (g1 ++ (g2 ++ g3)))) := by
    have z0 := fin1 [];rw [List.append_nil] at z0;rw [iU z0, st1, dU, cB, List.append_assoc, iU (fin1 g1)];rw [List.append_assoc] at st2 st3;rw [st2, dU, cB, List.append_assoc, List.append_assoc, iU (fin1 (g1 ++ g2))];simp only [List.append_assoc] at st3;rw [st3, dU, cB]
    try simp only [List.append_assoc]
    rw [mE (fin1 (g1 ++ (g2 ++ g3)))]
  simp only [List.append_assoc] at f3;have l4 := bD e4;have ev0 : ∀ rest' : MS, ai (ak (aH (aa (eC (.str "let")) (aa (eC (.str "let")) (aa (eC (.str "leap")) (aa (eC (.str "clock")) (aa (eC (.str "lot")) ae)))))) (gN 4))
    (ai (gp (mK (aH (aa (aA (aa (eC (.str "box")) (aa (aH (aa (eC (.str "get")) (aa (eC (.str "put")) ae))) ae))) (aa (aA (aa (eC (.str "lock")) (aa (aH (aa (eC (.str "take")) (aa (eC (.str "free")) ae))) ae))) (aa (aA (aa (eC (.str "lane")) (aa (aH (aa (eC (.str "send")) (aa (eC (.str "fetch")) ae))) ae))) ae))))) (gT 2 (aG (gN 5) (aG (gN 6) dA))) (bt (aq (ag fX (ag ar (ab 1) (ab 5)) (aH ae))) (ak (ag aE (ag aE (ab 4) (ab 6)) (ab 6)) (gN 4)) bA))
    rest') c [a0, some (.ref nd), a2, a3, none, none, none, n7, n8, n9, n10] H = rest' c [a0, some (.ref nd), a2, a3, some (.ref c3), some (.str "lane"), some (.ref (H.length + 3)), n7, n8, n9, n10] (H ++ (G ++ (g1 ++ (g2 ++ g3)))) := λrest' => by
    simp? (disch := omega) only [List.map_nil]
    exact (congrArg (λr => RV.bind r (Au rest' c)) lp).trans rfl
  generalize hJ : H ++ (G ++ (g1 ++ (g2 ++ g3))) = J at f3 ev0;have oJ : ∀ {n : Nat} {o : PO}, H[n]? = some o -> J[n]? = some o := λe => by rw [<- hJ]; exact old _ e
  have ne := ne_nil (h := J ++ [.lst []]) (n := b4) (m := J.length) (ss := s4) (by rw [aU (bD (oJ e4))]; exact oJ e4) aY o4;by_cases z : s4 = []
  . refine ⟨G ++ (g1 ++ (g2 ++ g3)) ++ [.lst []], c3, k3, .str "lane", .ref (H.length + 3), ?_, p3, by omega, yq, λrest => ?_⟩
    . rw [<- List.append_assoc, hJ, aU (bD f3)]; exact f3
    . rw [ev0, <- List.append_assoc, hJ];simp? (disch := omega) only [oJ e0, w4, ne, z]
  . have ad : aE (.ref c3) (.ref (J.length + (0 + 1))) (J ++ [.lst [], .lst [.str "say", .str "hear", .str "say"]]) = .ok (.ref (J.length + (0 + 1 + 1))) (J ++ [.lst [], .lst [.str "say", .str "hear", .str "say"], .lst (k3.map PV.str ++ [.str "say", .str "hear", .str "say"])]) := by
      have := gS (h := J ++ [.lst [], .lst [.str "say", .str "hear", .str "say"]]) (n := c3) (m := J.length + (0 + 1)) (xs := k3.map PV.str) (ys := [.str "say", .str "hear", .str "say"]) (by rw [aU (bD f3)]; exact f3) (by rw [aJ]; rfl) (by rw [List.length_map]; simp only [List.length_cons, List.length_nil]; omega);simpa using this
    refine ⟨G ++ (g1 ++ (g2 ++ g3)) ++ [.lst [], .lst [.str "say", .str "hear", .str "say"], .lst (k3.map PV.str ++ [.str "say", .str "hear", .str "say"])], J.length + (0 + 1 + 1), k3 ++ (["say", "hear", "say"] : List Str), .str "lane", .ref (H.length + 3), ?_, by simp, by simp; omega, λx m => ?_, λrest => ?_⟩
    . rw [<- List.append_assoc, hJ, aJ, List.map_append]; rfl
    . rcases List.mem_append.mp m with m | m
      . exact yq x m
      . refine .inr (.inr (.inr (.inr (.inr (.inr (.inr ⟨z, ?_⟩))))));rcases List.mem_cons.mp m with e | m
        . exact .inl e
        rcases List.mem_cons.mp m with e | m
        . exact .inr e
        rcases List.mem_cons.mp m with e | m
        . exact .inl e
        . cases m
    . rw [ev0, <- List.append_assoc, hJ];simp? (disch := omega) only [oJ e0, w4, ne, z, ad]
noncomputable def eN(g:PH)(nd:Nat)(s1 s2 s3 s4 s5:List Str):Prop :=
 (∃ b1 b2 b3 b4 b5:Nat,g[nd]?=some (.dct [(.inr "box",.ref (b1+1+1)),(.inr "lock",.ref (b2+1+1)),(.inr "lane",.ref (b3+1+1)),(.inr "door",.ref (b4+1+1)),(.inr "hand",.ref (b5+1+1))]) /\
  g[b1]?=some (.lst (s1.map PV.str))/\g[b2]?=some (.lst (s2.map PV.str))/\g[b3]?=some (.lst (s3.map PV.str))/\g[b4]?=some (.lst (s4.map PV.str))/\g[b5]?=some (.lst (s5.map PV.str))) /\
 ((∀ x∈s1,gA x)/\(∀ x∈s2,gA x)/\(∀ x∈s3,gA x)/\(∀ x∈s4,gA x)) /\
 (s1.length<=10/\s2.length<=10/\s3.length<=10/\s4.length<=10/\s5.length<=10)
theorem eN.app{g g':PH}{nd:Nat}{s1 s2 s3 s4 s5:List Str}(h:eN g nd s1 s2 s3 s4 s5):eN (g++g') nd s1 s2 s3 s4 s5:=by
 obtain⟨⟨b1,b2,b3,b4,b5,e0,e1,e2,e3,e4,e5⟩,h2,h3⟩:=h;exact⟨⟨b1,b2,b3,b4,b5,(aU (bD e0)).trans e0,(aU (bD e1)).trans e1,(aU (bD e2)).trans e2,(aU (bD e3)).trans e3,(aU (bD e4)).trans e4,(aU (bD e5)).trans e5⟩,h2,h3⟩
theorem eN.up{g:PH}{nd:Nat}{s1 s2 s3 s4 s5:List Str}(h:eN g nd s1 s2 s3 s4 s5)(x y:PO):Named (x::y::g) (nd+1+1) s1 s2 s3 s4 s5:=by
 obtain⟨⟨b1,b2,b3,b4,b5,e0,e1,e2,e3,e4,e5⟩,h2,h3⟩:=h;exact⟨⟨_,_,_,_,_,e0,e1,e2,e3,e4,e5⟩,h2,h3⟩
theorem F6{ns:List Int}{k:Int}{o:Option Int}{J:PH}{c:Nat}{xs:List PV}(h:(aI ns::aF k o::J)[c]?=some (.lst xs)): ∃ c',c=c'+1+1/\J[c']?=some (.lst xs):=by
 match c,h with
 | 0,h=>exact nomatch h
 | 1,h=>exact nomatch h
 | c+2,h=>exact⟨c,rfl,h⟩
noncomputable def dP:List (Key × PV):=[(.inr "get",.str "box"),(.inr "put",.str "box"),(.inr "take",.str "lock"),(.inr "free",.str "lock"),(.inr "send",.str "lane"),(.inr "fetch",.str "lane"),(.inr "say",.str "door"),(.inr "hear",.str "door")]
theorem wX:bV dP (.inr "get")=some (.str "box")/\bV dP (.inr "put")=some (.str "box")/\bV dP (.inr "take")=some (.str "lock")/\bV dP (.inr "free")=some (.str "lock") /\
  bV dP (.inr "send")=some (.str "lane")/\bV dP (.inr "fetch")=some (.str "lane")/\bV dP (.inr "say")=some (.str "door")/\bV dP (.inr "hear")=some (.str "door"):=by
 refine⟨?_,?_,?_,?_,?_,?_,?_,?_⟩<;>simp[dP,bV,aV]
theorem tH{a b c:Str}{h:PH}:jI (.str a) (.tup [.str b,.str c]) h= .ok (.bl (decide (a=b\/a=c))) h:=by
 have:=uD (h:=h) (a:=a) (ss:=[b,c]);simpa using this
theorem rZ{a b c d:Str}{h:PH}:jI (.str a) (.tup [.str b,.str c,.str d]) h= .ok (.bl (decide (a=b\/a=c\/a=d))) h:=by
 have:=uD (h:=h) (a:=a) (ss:=[b,c,d]);simpa using this
theorem Gy{v w:Int}(h0:0<=v)(h1:v < 4)(w0:0<=w)(w1:w < 999): ∃ n:Int,2<=n/\n<=1000/\eP [PV.int 2,.int 3,.int 1000,.int (2+w)] v=some (.int n):=by
 have:v=0\/v=1\/v=2\/v=3:=by omega
 rcases this with rfl | rfl | rfl | rfl
 . exact⟨2,by decide,by decide,rfl⟩
 . exact⟨3,by decide,by decide,rfl⟩
 . exact⟨1000,by decide,by decide,rfl⟩
 . exact⟨2+w,by omega,by omega,rfl⟩
section
variable{pg:Tb}(T:cP pg)
include T
theorem Bp(j:Nat){ns:List Int}(hn:ns.length<=63){np nd sd:Nat}{ps L:List Str}(p0:0 < ps.length)(p9:ps.length<=1000)(hL: ∀ x∈ps,x∈L){s1 s2 s3 s4 s5:List Str}{J:PH}(hN:eN J nd s1 s2 s3 s4 s5)(hp:J[np]?=some (.lst (ps.map PV.str)))(hs:J[sd]?=some (.dct dP))
  (k many:Int) (o:Option Int) (k0:0<=k) (k9:k+82<=1000000) (m0:0<=many) (m9:many<=1000) {x y:Str} (hx:jA s1 s2 s3 s4 x) (hy:y∈ps) (u4 u5 u6:Option PV) :
  ∃(r:Rw)(k':Int)(o':Option Int)(g':PH),(cO L many.toNat r/\jY r)/\k<=k'/\k'<=k+82 /\
  ai (bt (aq (ag cm (ab 7) (eC (.str "let")))) (az (aA (aa (eC (.str "let")) (aa (ab 8) (aa (ah "_law_sum" (aa (ab 0) (aa (ab 2) ae))) ae))))) bA)
  (ai (bt (aq (ag cm (ab 7) (eC (.str "leap")))) (az (aA (aa (eC (.str "leap")) (aa (ah "_law_pick" (aa (ab 0) (aa (ag aE (ab 3) (eC (.int 1))) ae))) (aa (ah "_law_sum" (aa (ab 0) (aa (ab 2) ae))) ae))))) bA)
  (ai (bt (aq (ag cm (ab 7) (eC (.str "clock")))) (az (aA (aa (eC (.str "clock")) (aa (ab 8) ae)))) bA)
  (ai (bt (aq (ag cm (ab 7) (eC (.str "lot")))) (az (aA (aa (eC (.str "lot")) (aa (ab 8) (aa (ag ar (aH (aa (eC (.int 2)) (aa (eC (.int 3)) (aa (eC (.int 1000)) (aa (ag aE (eC (.int 2)) (ah "_law_pick" (aa (ab 0) (aa (eC (.int 999)) ae)))) ae))))) (ah "_law_pick" (aa (ab 0) (aa (eC (.int 4)) ae)))) ae))))) bA)
  (ai (ak (ag ar (ab 1) (ag ar (ab 9) (ab 7))) (gN 6))
  (ai (ak (ag ar (ab 6) (ah "_law_pick" (aa (ab 0) (aa (eB bN (aa (ab 6) ae)) ae)))) (gN 10))
  (ai (bt (aq (ag jI (ab 7) (aA (aa (eC (.str "take")) (aa (eC (.str "free")) ae))))) (az (aA (aa (ab 7) (aa (ab 10) ae)))) bA)
  (ai (bt (aq (ag jI (ab 7) (aA (aa (eC (.str "get")) (aa (eC (.str "fetch")) (aa (eC (.str "hear")) ae)))))) (az (aA (aa (ab 7) (aa (ab 8) (aa (ab 10) ae))))) bA)
  (az (aA (aa (ab 7) (aa (ab 10) (aa (ah "_law_sum" (aa (ab 0) (aa (ab 2) ae))) ae))))))))))))
  (run pg (j+8)) [some (.ref 1),some (.ref (nd+1+1)),some (.ref (np+1+1)),some (.int many),u4,u5,u6,some (.str x),some (.str y),some (.ref (sd+1+1)),none] (aI ns::aF k o::J)= .ok (.rt (cZ r)) (aI ns::aF k' o'::(J++g')):=by
 obtain⟨⟨b1,b2,b3,b4,b5,e0,e1,e2,e3,e4,e5⟩,⟨n1,n2,n3,n4⟩,⟨l1,l2,l3,l4,l5⟩⟩:=hN;obtain⟨w1,w2,w3,w4,w5⟩:=iY (b1:=b1+1+1) (b2:=b2+1+1) (b3:=b3+1+1) (b4:=b4+1+1) (b5:=b5+1+1);obtain⟨v1,v2,v3,v4,v5,v6,v7,v8⟩:=wX;have yL:=hL y hy;have len0: ∀{s:List Str},s≠[]->0 < s.length:=λh=>List.length_pos_iff.mpr h;rcases hx with rfl | rfl | rfl | rfl | ⟨z,hx⟩ | ⟨z,hx⟩ | ⟨z,hx⟩ | ⟨z,hx⟩
 . obtain⟨e,k',o',q1,q2,q3,q4⟩:=nL T j hn p0 p9 k o J k0 (by omega) hp;refine⟨.let_ y e,k',o',[],⟨⟨yL,q1⟩,trivial⟩,q2,by omega,?_⟩;simp? [q4,cZ,Rw.w,Rw.ps,List.append_nil]
 . obtain⟨a,a0,a1,ea⟩:=aX T (j+6) J hn o (k:=k) (many+1) k0 (by omega) (by omega) (by omega);obtain⟨e,k',o',q1,q2,q3,q4⟩:=nL T j hn p0 p9 (k+1) o J (by omega) (by omega) hp;refine⟨.leap a e,k',o',[],⟨⟨a0,by omega,q1⟩,trivial⟩,by omega,by omega,?_⟩;simp? [ea,q4,cZ,Rw.w,Rw.ps,List.append_nil]
 . refine⟨.clock y,k,o,[],⟨yL,trivial⟩,by omega,by omega,?_⟩;simp? [cZ,Rw.w,Rw.ps,List.append_nil]
 . obtain⟨a,a0,a1,ea⟩:=aX T (j+6) J hn o (k:=k) 999 k0 (by omega) (by decide) (by decide);obtain⟨b,b0,b1,eb⟩:=aX T (j+6) (J++[.lst [.int 2,.int 3,.int 1000,.int (2+a)]]) hn o (k:=k+1) 4 (by omega) (by omega) (by decide) (by decide);obtain⟨n,n0,n9,en⟩:=Gy b0 b1 a0 a1;refine⟨.lot y n,k+1+1,o,[.lst [.int 2,.int 3,.int 1000,.int (2+a)]],⟨⟨yL,n0,n9⟩,trivial⟩,by omega,by omega,?_⟩;simp? [ea,eb,en,cZ,Rw.w,Rw.ps]
 . have zl:=len0 z;obtain⟨a,a0,a1,ea⟩:=aX T (j+6) J hn o (k:=k) s1.length k0 (by omega) (by omega) (by omega);obtain⟨t,ht,et⟩:=jz a0 a1;rcases hx with rfl | rfl
   . refine⟨.get y t,k+1,o,[],⟨yL,n1 t ht⟩,by omega,by omega,?_⟩;simp? [e0,hs,v1,w1,e1,List.length_map,ea,et,tH,rZ,cZ,Rw.w,Rw.ps,List.append_nil,true_or,or_true,or_false,false_or]
   . obtain⟨e,k',o',q1,q2,q3,q4⟩:=nL T j hn p0 p9 (k+1) o J (by omega) (by omega) hp;refine⟨.put t e,k',o',[],⟨q1,n1 t ht⟩,by omega,by omega,?_⟩;simp? [e0,hs,v2,w1,e1,List.length_map,ea,et,tH,rZ,q4,cZ,Rw.w,Rw.ps,List.append_nil,true_or,or_true,or_false,false_or]
 . have zl:=len0 z;obtain⟨a,a0,a1,ea⟩:=aX T (j+6) J hn o (k:=k) s2.length k0 (by omega) (by omega) (by omega);obtain⟨t,ht,et⟩:=jz a0 a1;rcases hx with rfl | rfl
   . refine⟨.take t,k+1,o,[],⟨trivial,n2 t ht⟩,by omega,by omega,?_⟩;simp? [e0,hs,v3,w2,e2,List.length_map,ea,et,tH,rZ,cZ,Rw.w,Rw.ps,List.append_nil,true_or,or_true,or_false,false_or]
   . refine⟨.free t,k+1,o,[],⟨trivial,n2 t ht⟩,by omega,by omega,?_⟩;simp? [e0,hs,v4,w2,e2,List.length_map,ea,et,tH,rZ,cZ,Rw.w,Rw.ps,List.append_nil,true_or,or_true,or_false,false_or]
 . have zl:=len0 z;obtain⟨a,a0,a1,ea⟩:=aX T (j+6) J hn o (k:=k) s3.length k0 (by omega) (by omega) (by omega);obtain⟨t,ht,et⟩:=jz a0 a1;rcases hx with rfl | rfl
   . obtain⟨e,k',o',q1,q2,q3,q4⟩:=nL T j hn p0 p9 (k+1) o J (by omega) (by omega) hp;refine⟨.send t e,k',o',[],⟨q1,n3 t ht⟩,by omega,by omega,?_⟩;simp? [e0,hs,v5,w3,e3,List.length_map,ea,et,tH,rZ,q4,cZ,Rw.w,Rw.ps,List.append_nil,true_or,or_true,or_false,false_or]
   . refine⟨.fetch y t,k+1,o,[],⟨yL,n3 t ht⟩,by omega,by omega,?_⟩;simp? [e0,hs,v6,w3,e3,List.length_map,ea,et,tH,rZ,cZ,Rw.w,Rw.ps,List.append_nil,true_or,or_true,or_false,false_or]
 . have zl:=len0 z;obtain⟨a,a0,a1,ea⟩:=aX T (j+6) J hn o (k:=k) s4.length k0 (by omega) (by omega) (by omega);obtain⟨t,ht,et⟩:=jz a0 a1;rcases hx with rfl | rfl
   . obtain⟨e,k',o',q1,q2,q3,q4⟩:=nL T j hn p0 p9 (k+1) o J (by omega) (by omega) hp;refine⟨.say t e,k',o',[],⟨q1,n4 t ht⟩,by omega,by omega,?_⟩;simp? [e0,hs,v7,w4,e4,List.length_map,ea,et,tH,rZ,q4,cZ,Rw.w,Rw.ps,List.append_nil,true_or,or_true,or_false,false_or]
   . refine⟨.hear y t,k+1,o,[],⟨yL,n4 t ht⟩,by omega,by omega,?_⟩;simp? [e0,hs,v8,w4,e4,List.length_map,ea,et,tH,rZ,cZ,Rw.w,Rw.ps,List.append_nil,true_or,or_true,or_false,false_or]
end
noncomputable def cD:List (Key × PV):=[(.inr "get",.str "box"),(.inr "put",.str "box"),(.inr "take",.str "lock"),(.inr "free",.str "lock"),(.inr "send",.str "lane"),(.inr "fetch",.str "lane")]
theorem vy:bH [] cD=cD/\bH [] [((.inr "say" :Key),PV.str "door"),(.inr "hear",.str "door")]=[(.inr "say",.str "door"),(.inr "hear",.str "door")]/\bH cD [((.inr "say" :Key),PV.str "door"),(.inr "hear",.str "door")]=dP:=by
 refine⟨?_,?_,?_⟩<;>simp[cD,dP,bH,eQ,aV]
section
variable{pg:Tb}(T:cP pg)
include T
theorem Jw(j:Nat){ns:List Int}(hn:ns.length<=63){np nd:Nat}{ps L:List Str}(p0:0 < ps.length)(p9:ps.length<=1000)(hL: ∀ x∈ps,x∈L){s1 s2 s3 s4 s5:List Str}{g:PH}(hN:eN g nd s1 s2 s3 s4 s5)(hp:g[np]?=some (.lst (ps.map PV.str)))
  (k many:Int) (o:Option Int) (k0:0<=k) (k9:k+84<=1000000) (m0:0<=many) (m9:many<=1000) :
  ∃ (r:Rw) (k':Int) (o':Option Int),(cO L many.toNat r∧jY r)∧k<=k'∧k'<=k+84∧run pg (j+9) "_law_row" [.ref 1,.ref (nd+1+1),.ref (np+1+1),.int many] (aI ns::aF k o::g)= .ok (cZ r) (aI ns::aF k' o'::g):=by
 have kk:=zN (run pg (j+8)) (hN.up (aI ns) (aF k o)) (some (.ref 1)) (some (.ref (np+1+1))) (some (.int many)) none none none none;obtain ⟨m1,m2,m3⟩:=vy;have pre: ∃ (g':PH) (c':Nat) (ks:List Str) (u5 u6:PV),(g++g')[c']?=some (.lst (ks.map PV.str))∧0 < ks.length∧ks.length<=100∧(∀ x∈ks,jA s1 s2 s3 s4 x)∧ ∀ rest, 
  ai (ak (aH (aa (eC (.str "let")) (aa (eC (.str "let")) (aa (eC (.str "leap")) (aa (eC (.str "clock")) (aa (eC (.str "lot")) ae)))))) (gN 4))
  (ai (gp (mK (aH (aa (aA (aa (eC (.str "box")) (aa (aH (aa (eC (.str "get")) (aa (eC (.str "put")) ae))) ae))) (aa (aA (aa (eC (.str "lock")) (aa (aH (aa (eC (.str "take")) (aa (eC (.str "free")) ae))) ae))) (aa (aA (aa (eC (.str "lane")) (aa (aH (aa (eC (.str "send")) (aa (eC (.str "fetch")) ae))) ae))) ae))))) (gT 2 (aG (gN 5) (aG (gN 6) dA))) (bt (aq (ag fX (ag ar (ab 1) (ab 5)) (aH ae))) (ak (ag aE (ag aE (ab 4) (ab 6)) (ab 6)) (gN 4)) bA))
  (ai (bt (aq (ag fX (ag ar (ab 1) (eC (.str "door"))) (aH ae))) (ak (ag aE (ab 4) (aH (aa (eC (.str "say")) (aa (eC (.str "hear")) (aa (eC (.str "say")) ae))))) (gN 4)) bA)
  rest)) (run pg (j+8)) [some (.ref 1),some (.ref (nd+1+1)),some (.ref (np+1+1)),some (.int many),none,none,none,none,none,none,none] (aI ns::aF k o::g) =
  rest (run pg (j+8)) [some (.ref 1),some (.ref (nd+1+1)),some (.ref (np+1+1)),some (.int many),some (.ref (c'+1+1)),some u5,some u6,none,none,none,none] (aI ns::aF k o::(g++g')):=by
  obtain⟨g',c,ks,u5,u6,h1,h2,h3,h4,h5⟩:=kk
  obtain⟨c',rfl,h1'⟩:=F6 (J:=g++g') h1
  exact⟨g',c',ks,u5,u6,h1',h2,h3,h4,h5⟩
 obtain⟨g',c',ks,u5,u6,hc,kp,kl,hk,ev⟩:=pre;obtain⟨v,v0,v1,ev1⟩:=aX T (j+6) (g++g') hn o (k:=k) ks.length k0 (by omega) (by omega) (by omega);obtain⟨x,xm,ex⟩:=jz v0 v1;obtain⟨w,w0,w1,ew1⟩:=aX T (j+6) (g++g') hn o (k:=k+1) ps.length (by omega) (by omega) (by omega) (by omega);obtain⟨y,ym,ey⟩:=jz w0 w1;have hp':(g++g')[np]?=some (.lst (ps.map PV.str)):=(aU (bD hp)).trans hp;have dk1:IG ((g++g').length+1+1) cD (aI ns::aF (k+1+1) o::(g++g'++[.dct []]))= .ok (.ref ((g++g').length+1+1)) (aI ns::aF (k+1+1) o::(g++g'++[.dct cD])):=by
  have:=qz (h:=aI ns::aF (k+1+1) o::(g++g')) (kvs:=cD) (by decide);rw[m1] at this;exact this
 have dk2:IG ((g++g'++[PO.dct cD]).length+1+1) [((.inr "say" :Key),PV.str "door"),(.inr "hear",.str "door")] (aI ns::aF (k+1+1) o::(g++g'++[PO.dct cD]++[.dct []]))= .ok (.ref ((g++g'++[PO.dct cD]).length+1+1)) (aI ns::aF (k+1+1) o::(g++g'++[PO.dct cD]++[.dct [(.inr "say",.str "door"),(.inr "hear",.str "door")]])):=by
  have:=qz (h:=aI ns::aF (k+1+1) o::(g++g'++[PO.dct cD])) (kvs:=[((.inr "say" :Key),PV.str "door"),(.inr "hear",.str "door")]) (by decide);rw[m2] at this;exact this
 generalize hJ:g++g'=J at *;obtain⟨r,k',o',g2,t1,t2,t3,t4⟩:=Bp T j hn p0 p9 hL (J:=J++([.dct dP,.dct [(.inr "say",.str "door"),(.inr "hear",.str "door")]]:PH)) (sd:=J.length) (by rw[<- hJ];exact hN.app.app) (by rw[aU (bD hp')];exact hp') aY (k+1+1) many o (by omega) (by omega) m0 m9 (hk x xm) ym (some (.ref (c'+1+1))) (some u5) (some u6);refine⟨r,k',o',t1,by omega,by omega,?_⟩;rw[run_eq T.vz rfl];unfold fB ju;refine(congrArg (fin _) (ev _)).trans ?_;have md: ∀ rr c e,LR fN jt rr c e (.ref (J.length+1+1)) (aI ns::aF (k+1+1) o::(J++[.dct cD]))=(rr c e (aI ns::aF (k+1+1) o::(J++[.dct cD]))).bind (fN (.ref (J.length+1+1))):=λrr c e=>Lq (Ll (kvs:=cD) aY);have up:fN (.ref (J.length+1+1)) [.ref (J.length+(0+1)+1+1)] (aI ns::aF (k+1+1) o::(J++[.dct cD,.dct [(.inr "say",.str "door"),(.inr "hear",.str "door")]]))= .ok .non (aI ns::aF (k+1+1) o::(J++[.dct dP,.dct [(.inr "say",.str "door"),(.inr "hear",.str "door")]])):=by
  have:=Ph (h:=aI ns::aF (k+1+1) o::(J++[.dct cD,.dct [(.inr "say",.str "door"),(.inr "hear",.str "door")]])) (n:=J.length+1+1) (m:=J.length+(0+1)+1+1) (kvs:=cD) (more:=[(.inr "say",.str "door"),(.inr "hear",.str "door")]) aY aJ (by omega) (by decide);rw[m3] at this;rw[this];simp only[List.set_cons_succ,eY,List.set_cons_zero]
 rw[List.length_append] at dk2;simp only[List.append_assoc,List.cons_append,List.nil_append,List.length_cons,List.length_nil] at dk2;unfold cD at dk1 md up dk2;simp? [hc,ev1,ex,hp',ew1,ey,List.length_map,mh,qH,mG,qq,qP,rp,dk1,dk2,md,up,↓t4,c7 (mU r)];rw[<- hJ,List.append_assoc];exact c7 (mU r)
end
noncomputable def pq:List Str:=["a", "ab", "abc", "lets", "leaper", "getit", "puts", "taken", "freed", "sender", "fetched", "says", "clocks", "lots", "hearth", "added", "subway", "mulled", "lesser", "samey", "nothing", "boxes", "locker", "lanes", "doors", "hands", "b", "zzzzzzzz", "of", "num"]
noncomputable def nA:List PV:=[.str "a",.str "ab",.str "abc",.str "lets",.str "leaper",.str "getit",.str "puts",.str "taken",.str "freed",.str "sender",.str "fetched",.str "says"]
noncomputable def nB:List PV:=[.str "clocks",.str "lots",.str "hearth",.str "added",.str "subway",.str "mulled",.str "lesser",.str "samey",.str "nothing"]
noncomputable def nC:List PV:=[.str "boxes",.str "locker",.str "lanes",.str "doors",.str "hands",.str "b",.str "zzzzzzzz",.str "of",.str "num"]
noncomputable def nD:List PV:=[.str "a",.str "ab",.str "abc",.str "lets",.str "leaper",.str "getit",.str "puts",.str "taken",.str "freed",.str "sender",.str "fetched",.str "says",.str "clocks",.str "lots",.str "hearth",.str "added",.str "subway",.str "mulled",.str "lesser",.str "samey",.str "nothing"]
noncomputable def nE:List PV:=[.str "a",.str "ab",.str "abc",.str "lets",.str "leaper",.str "getit",.str "puts",.str "taken",.str "freed",.str "sender",.str "fetched",.str "says",.str "clocks",.str "lots",.str "hearth",.str "added",.str "subway",.str "mulled",.str "lesser",.str "samey",.str "nothing",.str "boxes",.str "locker",.str "lanes",.str "doors",.str "hands",.str "b",.str "zzzzzzzz",.str "of",.str "num"]
theorem Bm: ∀ x∈pq,gA x:=by unfold gA;decide +kernel
theorem Gp:pq.Nodup:=by decide +kernel
theorem um{x y:PO}{J:PH}{a b:Nat}{xs ys:List PV}(e1:J[a]?=some (.lst xs))(e2:J[b]?=some (.lst ys))(hl:xs.length+ys.length<=10000):aE (.ref (a+1+1)) (.ref (b+1+1)) (x::y::J)= .ok (.ref (J.length+1+1)) (x::y::(J++[.lst (xs++ys)])) :=
 gS (h:=x::y::J) (n:=a+1+1) (m:=b+1+1) e1 e2 (by omega)
section
variable{pg:Tb}(T:cP pg)
include T
theorem zu(j:Nat){ns:List Int}(hn:ns.length<=63)(k:Int)(o:Option Int)(g:PH)(k0:0<=k)(k9:k < 1000000) :
  ∃(g':PH)(n:Nat)(nm:List Str),(g++g')[n]?=some (.lst (nm.map PV.str))/\nm.length=30/\(∀ x∈nm,gA x)/\nm.Nodup/\run pg (j+3) "_law_names" [.ref 1] (aI ns::aF k o::g)= .ok (.ref (n+1+1)) (aI ns::aF (k+1) o::(g++g')):=by
 have ad1: ∀ x y,aE (.ref (g.length+1+1)) (.ref (g.length+(0+1)+1+1)) (x::y::(g++[.lst nA,.lst nB]))= .ok (.ref (g.length+(0+1+1)+1+1)) (x::y::(g++[.lst nA,.lst nB,.lst nD])):=λx y=>by
  exact(um (x:=x) (y:=y) (J:=g++[.lst nA,.lst nB]) (a:=g.length) (b:=g.length+(0+1)) aY aJ (by decide)).trans (by simp only[List.append_assoc,List.length_append,List.cons_append,List.nil_append,List.length_cons,List.length_nil];rfl)
 have ad2: ∀ x y,aE (.ref (g.length+(0+1+1)+1+1)) (.ref (g.length+(0+1+1+1)+1+1)) (x::y::(g++[.lst nA,.lst nB,.lst nD,.lst nC]))= .ok (.ref (g.length+(0+1+1+1+1)+1+1)) (x::y::(g++[.lst nA,.lst nB,.lst nD,.lst nC,.lst nE])):=λx y=>by
  exact(um (x:=x) (y:=y) (J:=g++[.lst nA,.lst nB,.lst nD,.lst nC]) (a:=g.length+(0+1+1)) (b:=g.length+(0+1+1+1)) aJ aJ (by decide)).trans (by simp only[List.append_assoc,List.length_append,List.cons_append,List.nil_append,List.length_cons,List.length_nil];rfl)
 obtain⟨v,v0,v1,ev⟩:=aX T (j) (g++[.lst nA,.lst nB,.lst nD,.lst nC,.lst nE]) hn o (k:=k) 30 k0 k9 (by decide) (by decide);have hA:[.str "a",.str "ab",.str "abc",.str "lets",.str "leaper",.str "getit",.str "puts",.str "taken",.str "freed",.str "sender",.str "fetched",.str "says"]=nA:=rfl;have hB:[.str "clocks",.str "lots",.str "hearth",.str "added",.str "subway",.str "mulled",.str "lesser",.str "samey",.str "nothing"]=nB:=rfl;have hC:[.str "boxes",.str "locker",.str "lanes",.str "doors",.str "hands",.str "b",.str "zzzzzzzz",.str "of",.str "num"]=nC:=rfl;have lA:nA.length=12:=rfl;have lB:nB.length=9:=rfl;have lC:nC.length=9:=rfl;have lD:nD.length=21:=rfl;have c30:((nE.length:Nat):Int)=30:=rfl;have c1:dZ nE (some v) none=(pq.drop v.toNat).map PV.str:=by rw[P3.fF v0,List.map_drop];rfl
 have c2:dZ nE none (some v)=(pq.take v.toNat).map PV.str:=by rw[P3.mO v0,List.map_take];rfl
 have ad3: ∀ x y,aE (.ref (g.length+(0+1+1+1+1+1)+1+1)) (.ref (g.length+(0+1+1+1+1+1+1)+1+1)) (x::y::(g++[.lst nA,.lst nB,.lst nD,.lst nC,.lst nE,.lst ((pq.drop v.toNat).map PV.str),.lst ((pq.take v.toNat).map PV.str)]))= .ok (.ref (g.length+(0+1+1+1+1+1+1+1)+1+1)) (x::y::(g++[.lst nA,.lst nB,.lst nD,.lst nC,.lst nE,.lst ((pq.drop v.toNat).map PV.str),.lst ((pq.take v.toNat).map PV.str),.lst ((pq.drop v.toNat++pq.take v.toNat).map PV.str)])):=λx y=>by
  have:=um (x:=x) (y:=y) (J:=g++[.lst nA,.lst nB,.lst nD,.lst nC,.lst nE,.lst ((pq.drop v.toNat).map PV.str),.lst ((pq.take v.toNat).map PV.str)]) (a:=g.length+(0+1+1+1+1+1)) (b:=g.length+(0+1+1+1+1+1+1)) aJ aJ (by rw[List.length_map,List.length_map,List.length_drop,List.length_take];have:pq.length=30:=rfl;omega);rw[<- List.map_append] at this;rw[this];simp only[List.append_assoc,List.length_append,List.cons_append,List.nil_append,List.length_cons,List.length_nil]
 refine⟨[.lst nA,.lst nB,.lst nD,.lst nC,.lst nE,.lst ((pq.drop v.toNat).map PV.str),.lst ((pq.take v.toNat).map PV.str),.lst ((pq.drop v.toNat++pq.take v.toNat).map PV.str)],g.length+(0+1+1+1+1+1+1+1),pq.drop v.toNat++pq.take v.toNat,aJ,?_,λx m=>?_,?_,?_⟩
 . rw[List.length_append,List.length_drop,List.length_take];have:pq.length=30:=rfl;omega
 . rcases List.mem_append.mp m with m | m
   . exact Bm x (List.mem_of_mem_drop m)
   . exact Bm x (List.mem_of_mem_take m)
 . exact(List.perm_append_comm.trans (by rw[List.take_append_drop])).nodup_iff.mpr Gp
 . rw[run_eq T.rD rfl];simp? [dM,gU,hA,hB,hC,ad1,ad2,c30,ev,c1,c2,ad3];exact gX (v:= .ref _) rfl
end
noncomputable def Oe(h:PH)(a b:Option PO):RV PV:=match a,b with
 | some (.lst xs),some (.lst ys)=>EF (xs++ys) h
 | _,_=> .no
theorem L0{n m:Nat}{h:PH}:aE (.ref n) (.ref m) h=Oe h (h[n]?) (h[m]?):=by
 unfold aE Oe
 first | rfl | (simp only;done) | (cases h[n]?<;>cases h[m]?<;>rfl)
theorem Hr{h:PH}{xs ys:List PV}(hl:xs.length+ys.length<=10000):Oe h (some (.lst xs)) (some (.lst ys))= .ok (.ref h.length) (h++[.lst (xs++ys)]):=by
 unfold Oe EF;exact qM (by rw[List.length_append];omega)
theorem iN{n:Nat}{xs:List PV}{h:PH}(e:h[n]?=some (.lst xs)):hW.fH ⟨some n,xs⟩ h=true:=by
 unfold hW.fH;simp only[e,true_or,decide_true]
theorem my{nm:List Str}{v:Int}(h0:0<=v):dZ (nm.map PV.str) none (some v)=(nm.take v.toNat).map PV.str:=by rw[P3.mO h0,List.map_take]
theorem xJ{nm:List Str}{v:Int}(h0:0<=v):dZ (nm.map PV.str) (some v) none=(nm.drop v.toNat).map PV.str:=by rw[P3.fF h0,List.map_drop]
theorem xA{a b c d e:PV}:eQ [] (.inr "box") a=[(.inr "box",a)]/\eQ [(.inr "box",a)] (.inr "lock") b=[(.inr "box",a),(.inr "lock",b)]/\eQ [(.inr "box",a),(.inr "lock",b)] (.inr "lane") c=[(.inr "box",a),(.inr "lock",b),(.inr "lane",c)] /\
  eQ [(.inr "box",a),(.inr "lock",b),(.inr "lane",c)] (.inr "door") d=[(.inr "box",a),(.inr "lock",b),(.inr "lane",c),(.inr "door",d)]/\eQ [(.inr "box",a),(.inr "lock",b),(.inr "lane",c),(.inr "door",d)] (.inr "hand") e=[(.inr "box",a),(.inr "lock",b),(.inr "lane",c),(.inr "door",d),(.inr "hand",e)]:=by
 refine⟨?_,?_,?_,?_,?_⟩<;>simp[eQ,aV]
section
variable {pg:Tb} (T:cP pg)
include T
theorem yV (j : Nat) {ns : List Int} (hn : ns.length <= 63) (k : Int) (o : Option Int) (g : PH) {n : Nat} {nm : List Str} (hg : g[n]? = some (.lst (nm.map PV.str))) (k0 : 0 <= k) (k9 : k + 5 < 1000000) (nl : nm.length = 30) :
    ∃ m1 m2 m3 m4 m5 : Int, (0 <= m1 /\ m1 < 5) /\ (0 <= m2 /\ m2 < 5) /\ (0 <= m3 /\ m3 < 5) /\ (0 <= m4 /\ m4 < 5) /\ (0 <= m5 /\ m5 < 5) /\ ∀ rest : MS,
    ai (ak jn (gN 2))
    (ai (gp (mK (aH (aa (eC (.str "box")) (aa (eC (.str "lock")) (aa (eC (.str "lane")) (aa (eC (.str "door")) (aa (eC (.str "hand")) ae))))))) (gN 3) (ai (ak (ah "_law_pick" (aa (ab 0) (aa (eC (.int 5)) ae))) (gN 4))
    (ai (bt (aq (ag cm (ab 3) (eC (.str "hand")))) (ak (ag aE (eC (.int 1)) (ag eA (ab 4) (eC (.int 4)))) (gN 4)) bA)
    (ai (jR i7 (ab 2) (ab 3) (jJ (ab 1) cn (cq (ab 4))))
    (ak (jJ (ab 1) (cq (ab 4)) cn) (gN 1))))))
    rest) (run pg (j + 2)) [some (.ref 1), some (.ref (n + 1 + 1)), none, none, none, none, none, none, none] (aI ns :: aF k o :: g) =
    rest (run pg (j + 2)) [some (.ref 1), some (.ref (g.length + 11 + 1 + 1)), some (.ref (g.length + 1 + 1)), some (.str "hand"), some (.int (1 + m5 % 4)), none, none, none, none] (aI ns :: aF (k + 5) o :: (g ++
      [.dct [(.inr "box", .ref (g.length + 2 + 1 + 1)), (.inr "lock", .ref (g.length + 4 + 1 + 1)), (.inr "lane", .ref (g.length + 6 + 1 + 1)), (.inr "door", .ref (g.length + 8 + 1 + 1)), (.inr "hand", .ref (g.length + 10 + 1 + 1))],
       .lst [.str "box", .str "lock", .str "lane", .str "door", .str "hand"],
       .lst ((nm.take m1.toNat).map PV.str), .lst ((nm.drop m1.toNat).map PV.str),
       .lst (((nm.drop m1.toNat).take m2.toNat).map PV.str), .lst (((nm.drop m1.toNat).drop m2.toNat).map PV.str),
       .lst ((((nm.drop m1.toNat).drop m2.toNat).take m3.toNat).map PV.str), .lst ((((nm.drop m1.toNat).drop m2.toNat).drop m3.toNat).map PV.str),
       .lst (((((nm.drop m1.toNat).drop m2.toNat).drop m3.toNat).take m4.toNat).map PV.str), .lst (((((nm.drop m1.toNat).drop m2.toNat).drop m3.toNat).drop m4.toNat).map PV.str),
       .lst ((((((nm.drop m1.toNat).drop m2.toNat).drop m3.toNat).drop m4.toNat).take (1 + m5 % 4).toNat).map PV.str), .lst ((((((nm.drop m1.toNat).drop m2.toNat).drop m3.toNat).drop m4.toNat).drop (1 + m5 % 4).toNat).map PV.str)])) := by
  have lt := bD hg;have old : ∀ G : PH, (g ++ G)[n]? = some (.lst (nm.map PV.str)) := λG => (aU lt).trans hg;obtain ⟨m1, a1, b1, p1⟩ := aX T j (g ++ [.dct [], .lst [.str "box", .str "lock", .str "lane", .str "door", .str "hand"]]) hn o (k := k) 5 k0 (by omega) (by decide) (by decide)
  let G1 : PH := [.dct [(.inr "box", .ref (g.length + (0 + 1 + 1) + 1 + 1))], .lst [.str "box", .str "lock", .str "lane", .str "door", .str "hand"], .lst ((nm.take m1.toNat).map PV.str), .lst ((nm.drop m1.toNat).map PV.str)]
  obtain ⟨m2, a2, b2, p2⟩ := aX T j (g ++ G1) hn o (k := k + 1) 5 (by omega) (by omega) (by decide) (by decide)
  let G2 : PH := [.dct [(.inr "box", .ref (g.length + (0 + 1 + 1) + 1 + 1)), (.inr "lock", .ref (g.length + (0 + 1 + 1 + 1 + 1) + 1 + 1))], .lst [.str "box", .str "lock", .str "lane", .str "door", .str "hand"], .lst ((nm.take m1.toNat).map PV.str), .lst ((nm.drop m1.toNat).map PV.str), .lst (((nm.drop m1.toNat).take m2.toNat).map PV.str), .lst (((nm.drop m1.toNat).drop m2.toNat).map PV.str)]
  obtain ⟨m3, a3, b3, p3⟩ := aX T j (g ++ G2) hn o (k := k + 1 + 1) 5 (by omega) (by omega) (by decide) (by decide)
  let G3 : PH := [.dct [(.inr "box", .ref (g.length + (0 + 1 + 1) + 1 + 1)), (.inr "lock", .ref (g.length + (0 + 1 + 1 + 1 + 1) + 1 + 1)), (.inr "lane", .ref (g.length + (0 + 1 + 1 + 1 + 1 + 1 + 1) + 1 + 1))], .lst [.str "box", .str "lock", .str "lane", .str "door", .str "hand"], .lst ((nm.take m1.toNat).map PV.str), .lst ((nm.drop m1.toNat).map PV.str), .lst (((nm.drop m1.toNat).take m2.toNat).map PV.str), .lst (((nm.drop m1.toNat).drop m2.toNat).map PV.str),
       .lst ((((nm.drop m1.toNat).drop m2.toNat).take m3.toNat).map PV.str), .lst ((((nm.drop m1.toNat).drop m2.toNat).drop m3.toNat).map PV.str)]
  obtain ⟨m4, a4, b4, p4⟩ := aX T j (g ++ G3) hn o (k := k + 1 + 1 + 1) 5 (by omega) (by omega) (by decide) (by decide)
  let G4 : PH := [.dct [(.inr "box", .ref (g.length + (0 + 1 + 1) + 1 + 1)), (.inr "lock", .ref (g.length + (0 + 1 + 1 + 1 + 1) + 1 + 1)), (.inr "lane", .ref (g.length + (0 + 1 + 1 + 1 + 1 + 1 + 1) + 1 + 1)), (.inr "door", .ref (g.length + (0 + 1 + 1 + 1 + 1 + 1 + 1 + 1 + 1) + 1 + 1))], .lst [.str "box", .str "lock", .str "lane", .str "door", .str "hand"], .lst ((nm.take m1.toNat).map PV.str), .lst ((nm.drop m1.toNat).map PV.str), .lst (((nm.drop m1.toNat).take m2.toNat).map PV.str), .lst (((nm.drop m1.toNat).drop m2.toNat).map PV.str),
       .lst ((((nm.drop m1.toNat).drop m2.toNat).take m3.toNat).map PV.str), .lst ((((nm.drop m1.toNat).drop m2.toNat).drop m3.toNat).map PV.str), .lst (((((nm.drop m1.toNat).drop m2.toNat).drop m3.toNat).take m4.toNat).map PV.str), .lst (((((nm.drop m1.toNat).drop m2.toNat).drop m3.toNat).drop m4.toNat).map PV.str)]
  obtain ⟨m5, a5, b5, p5⟩ := aX T j (g ++ G4) hn o (k := k + 1 + 1 + 1 + 1) 5 (by omega) (by omega) (by decide) (by decide);refine ⟨m1, m2, m3, m4, m5, ⟨a1, b1⟩, ⟨a2, b2⟩, ⟨a3, b3⟩, ⟨a4, b4⟩, ⟨a5, b5⟩, λrest => ?_⟩;have mm : 0 <= m5 % 4 := Int.emod_nonneg _ (by decide);dsimp only [G1, G2, G3, G4] at p2 p3 p4 p5;have pu := λa b c d e => xA (a := a) (b := b) (c := c) (d := d) (e := e);simp? (disch := first | omega | exact iN aJ | (simp only [List.length_cons, List.length_nil] <;> omega)) only [old, iU, mE, cB, my, xJ, nI, p1, p2, p3, p4, p5, (pu .non .non .non .non .non).1, λa => (pu a .non .non .non .non).1, λa b => (pu a b .non .non .non).2.1, λa b c => (pu a b c .non .non).2.2.1, λa b c d => (pu a b c d .non).2.2.2.1, λa b c d e => (pu a b c d e).2.2.2.2];have kk : k + 1 + 1 + 1 + 1 + 1 = k + 5 := by omega
  rw [kk]
theorem xy (j:Nat) {ns:List Int} (hn:ns.length<=63) (k:Int) (o:Option Int) (g:PH) {n:Nat} {nm:List Str} (hg:g[n]?=some (.lst (nm.map PV.str))) (k0:0<=k) (k9:k+5 < 1000000) (nl:nm.length=30) (nk: ∀ x∈nm,gA x) :
  ∃ (g':PH) (nn nd:Nat) (s1 s2 s3 s4 s5 n5:List Str) (u3 u4:Option PV),eN (g++g') nd s1 s2 s3 s4 s5∧(g++g')[nn]?=some (.lst (n5.map PV.str))∧n5.length<=30∧1<=s5.length∧s5.length<=4∧s1++(s2++(s3++(s4++(s5++n5))))=nm∧ ∀ rest:MS,
  ai (ak jn (gN 2))
  (ai (gp (mK (aH (aa (eC (.str "box")) (aa (eC (.str "lock")) (aa (eC (.str "lane")) (aa (eC (.str "door")) (aa (eC (.str "hand")) ae))))))) (gN 3) (ai (ak (ah "_law_pick" (aa (ab 0) (aa (eC (.int 5)) ae))) (gN 4))
  (ai (bt (aq (ag cm (ab 3) (eC (.str "hand")))) (ak (ag aE (eC (.int 1)) (ag eA (ab 4) (eC (.int 4)))) (gN 4)) bA)
  (ai (jR i7 (ab 2) (ab 3) (jJ (ab 1) cn (cq (ab 4))))
  (ak (jJ (ab 1) (cq (ab 4)) cn) (gN 1))))))
  rest) (run pg (j+2)) [some (.ref 1),some (.ref (n+1+1)),none,none,none,none,none,none,none] (aI ns::aF k o::g) =
  rest (run pg (j+2)) [some (.ref 1),some (.ref (nn+1+1)),some (.ref (nd+1+1)),u3,u4,none,none,none,none] (aI ns::aF (k+5) o::(g++g')):=by
 obtain⟨m1,m2,m3,m4,m5,⟨a1,b1⟩,⟨a2,b2⟩,⟨a3,b3⟩,⟨a4,b4⟩,⟨a5,b5⟩,h⟩:=yV T j hn k o g hg k0 k9 nl;have q5:0<=m5 % 4/\m5 % 4 < 4:=⟨Int.emod_nonneg _ (by decide),Int.emod_lt_of_pos _ (by decide)⟩
 have tk: ∀{l:List Str}{m:Nat}{x:Str},x∈l.take m->x∈l:=λh=>List.mem_of_mem_take h;have dr: ∀{l:List Str}{m:Nat}{x:Str},x∈l.drop m->x∈l:=λh=>List.mem_of_mem_drop h;refine⟨_,_,_,nm.take m1.toNat,(nm.drop m1.toNat).take m2.toNat,((nm.drop m1.toNat).drop m2.toNat).take m3.toNat,(((nm.drop m1.toNat).drop m2.toNat).drop m3.toNat).take m4.toNat,((((nm.drop m1.toNat).drop m2.toNat).drop m3.toNat).drop m4.toNat).take (1+m5 % 4).toNat,((((nm.drop m1.toNat).drop m2.toNat).drop m3.toNat).drop m4.toNat).drop (1+m5 % 4).toNat,_,_,⟨⟨_,_,_,_,_,aY,aJ,aJ,aJ,aJ,aJ⟩,⟨λx m=>nk x (tk m),λx m=>nk x (dr (tk m)),λx m=>nk x (dr (dr (tk m))),λx m=>nk x (dr (dr (dr (tk m))))⟩,?_⟩,aJ,?_,?_,?_,by simp only[List.take_append_drop],h⟩
 . simp only[List.length_take,List.length_drop];omega
 . simp only[List.length_take,List.length_drop];omega
 . simp only[List.length_take,List.length_drop];omega
 . simp only[List.length_take,List.length_drop];omega
end
mutual
def F2:PV->Bool
 | .tup xs=>decide (xs.length<=100000)&&BI xs
 | .non=>true
 | .bl _=>true
 | .int _=>true
 | .str _=>true
 | _=>false
def BI:List PV->Bool
 | []=>true
 | x::r=>F2 x&&BI r
end
mutual
def Qp:PV->Nat
 | .tup xs=>Qd xs+1
 | _=>0
def Qd:List PV->Nat
 | []=>0
 | x::r=>max (Qp x) (Qd r)
end
theorem eW{xs:List PV}{h:PH}:hW.fH ⟨none,xs⟩ h=true:=rfl
theorem CP{v:Int}(h0:0<=v)(h1:v < 3): ∃ x:Str,eP [PV.str "a",.str "ab",.str "boxes"] v=some (.str x):=by
 have:v=0\/v=1\/v=2:=by omega
 rcases this with rfl | rfl | rfl<;>exact⟨_,rfl⟩
theorem Ji{v w:Int}(h0:0<=v)(h1:v < 4): ∃ n:Int,eP [PV.int 0,.int 1,.int 999,.int w] v=some (.int n):=by
 have:v=0\/v=1\/v=2\/v=3:=by omega
 rcases this with rfl | rfl | rfl | rfl<;>exact⟨_,rfl⟩
theorem E8{v a b c:Int}(h0:0<=v)(h1:v < 4)(a0:0<=a)(a1:a < 4)(b0:0<=b)(b1:b < 6)(c0:0<=c)(c1:c < 6): ∃ n:Int,0<=n/\n<=30/\eP [PV.int a,.int (3+b),.int (3+c),.int 30] v=some (.int n):=by
 have:v=0\/v=1\/v=2\/v=3:=by omega
 rcases this with rfl | rfl | rfl | rfl
 . exact⟨a,a0,by omega,rfl⟩
 . exact⟨3+b,by omega,by omega,rfl⟩
 . exact⟨3+c,by omega,by omega,rfl⟩
 . exact⟨30,by decide,by decide,rfl⟩
section
variable{pg:Tb}(T:cP pg)
include T
theorem vC(j:Nat){ns:List Int}(hn:ns.length<=63)(k:Int)(o:Option Int)(J:PH){nn nd:Nat}{s1 s2 s3 s4 s5 n5:List Str}(hN:eN J nd s1 s2 s3 s4 s5)(h5:J[nn]?=some (.lst (n5.map PV.str)))(k0:0<=k)(k9:k+1 < 1000000)(u3 u4 n7 n8:Option PV) :
  ∃(G:PH)(np:Nat)(ps:List Str),(J++G)[np]?=some (.lst (ps.map PV.str))/\0 < ps.length/\ps.length<=5/\ ∀ rest:MS,
  ai (ak (ag aE (ag aE (ag aE (jJ (ab 1) cn (cq (eC (.int 2)))) (jJ (ag ar (ab 2) (eC (.str "box"))) cn (cq (eC (.int 1))))) (jJ (ag ar (ab 2) (eC (.str "hand"))) cn (cq (eC (.int 1))))) (aH (aa (ag ar (aH (aa (eC (.str "a")) (aa (eC (.str "ab")) (aa (eC (.str "boxes")) ae)))) (ah "_law_pick" (aa (ab 0) (aa (eC (.int 3)) ae)))) ae))) (gN 5))
  (ai (ak (aH ae) (gN 6)) rest) (run pg (j+2)) [some (.ref 1),some (.ref (nn+1+1)),some (.ref (nd+1+1)),u3,u4,none,none,n7,n8] (aI ns::aF k o::J) =
  rest (run pg (j+2)) [some (.ref 1),some (.ref (nn+1+1)),some (.ref (nd+1+1)),u3,u4,some (.ref (np+1+1)),some (.ref ((J++G).length+1+1)),n7,n8] (aI ns::aF (k+1) o::(J++G++[.lst []])):=by
 obtain⟨⟨b1,b2,b3,b4,b5,e0,e1,e2,e3,e4,e5⟩,_,_⟩:=hN;obtain⟨w1,w2,w3,w4,w5⟩:=iY (b1:=b1+1+1) (b2:=b2+1+1) (b3:=b3+1+1) (b4:=b4+1+1) (b5:=b5+1+1);have o0: ∀ G:PH,(J++G)[nd]?=_:=λG=>(aU (bD e0)).trans e0;have o1: ∀ G:PH,(J++G)[b1]?=_:=λG=>(aU (bD e1)).trans e1;have o5: ∀ G:PH,(J++G)[b5]?=_:=λG=>(aU (bD e5)).trans e5
 let A:List PV:=(n5.take 2).map PV.str
 let B:List PV:=(s1.take 1).map PV.str
 let C:List PV:=(s5.take 1).map PV.str
 have t2:dZ (n5.map PV.str) none (some 2)=A:=my (by decide);have t1:dZ (s1.map PV.str) none (some 1)=B:=my (by decide);have t5:dZ (s5.map PV.str) none (some 1)=C:=my (by decide);have lA:A.length<=2:=by simp only[A,List.length_map,List.length_take];omega
 have lB:B.length<=1:=by simp only[B,List.length_map,List.length_take];omega
 have lC:C.length<=1:=by simp only[C,List.length_map,List.length_take];omega
 obtain⟨v,v0,v1,ev⟩:=aX T j (J++[.lst A,.lst B,.lst (A++B),.lst C,.lst (A++(B++C)),.lst [.str "a",.str "ab",.str "boxes"]]) hn o (k:=k) 3 k0 (by omega) (by decide) (by decide);obtain⟨x,ex⟩:=CP v0 v1;have eq:A++(B++(C++[PV.str x]))=(n5.take 2++(s1.take 1++(s5.take 1++[x]))).map PV.str:=by simp only[A,B,C,List.map_append,List.map_cons,List.map_nil]
 refine⟨[.lst A,.lst B,.lst (A++B),.lst C,.lst (A++(B++C)),.lst [.str "a",.str "ab",.str "boxes"],.lst [.str x],.lst (A++(B++(C++[.str x])))],J.length+(0+1+1+1+1+1+1+1),n5.take 2++(s1.take 1++(s5.take 1++[x])),?_,?_,?_,λrest=>?_⟩
 . rw[<- eq];exact aJ
 . simp only[List.length_append,List.length_cons];omega
 . simp only[List.length_append,List.length_cons,List.length_nil,List.length_take];omega
 . clear_value A B C
   simp? (disch:=first | omega | (simp only[List.length_append,List.length_cons,List.length_nil]<;>omega)) only[e0,o0,w1,w5,o1,o5,h5,t2,t1,t5,L0,Hr,ev,ex]
theorem Cp(j:Nat){ns:List Int}(hn:ns.length<=63){np nd:Nat}{ps L:List Str}(p0:0 < ps.length)(p9:ps.length<=1000)(hL: ∀ x∈ps,x∈L){s1 s2 s3 s4 s5:List Str}{g:PH}(hN:eN g nd s1 s2 s3 s4 s5)(hp:g[np]?=some (.lst (ps.map PV.str)))(many:Int)(m0:0<=many)(m9:many<=30)(xs0:List PV)(e1 e3 e6 e7 e8:Option PV) :
  ∀(xs ys:List PV)(k:Int)(o:Option Int),0<=k->k+84*xs.length<=1000000->ys.length+xs.length<=1000-> ∃(rs:List Rw)(k':Int)(o':Option Int),rs.length=xs.length/\(∀ r∈rs,cO L many.toNat r/\jY r)/\k<=k'/\k'<=k+84*xs.length /\
   jK ⟨none,xs0⟩ (bU 1 (gN 9) fm (ah "_law_row" (aa (ab 0) (aa (ab 2) (aa (ab 5) (aa (ab 4) ae))))) (run pg (j+9)) [some (.ref 1),e1,some (.ref (nd+1+1)),e3,some (.int many),some (.ref (np+1+1)),e6,e7,e8]) xs ys (aI ns::aF k o::g)= .ok (ys++rs.map cZ) (aI ns::aF k' o'::g):=by
 intro xs
 induction xs with
 | nil=>intro ys k o k0 k9 _;exact⟨[],k,o,rfl,λr m=>(nomatch m),by omega,by simp,by rw[P3.jK,if_pos eW];simp⟩
 | cons x xs ih =>
  intro ys k o k0 k9 hl
  rw[List.length_cons] at k9 hl
  obtain⟨r,k1,o1,q1,q2,q3,q4⟩:=Jw T j hn p0 p9 hL hN hp k many o k0 (by omega) m0 (by omega)
  obtain⟨rs,k2,o2,r1,r2,r3,r4,r5⟩:=ih (ys++[cZ r]) k1 o1 (by omega) (by omega) (by simp;omega)
  refine⟨r::rs,k2,o2,by simp[r1],λz m=>?_,by omega,by rw[List.length_cons];omega,?_⟩
  . rcases List.mem_cons.mp m with rfl | m
    . exact q1
    . exact r2 z m
  . have st:bU 1 (gN 9) fm (ah "_law_row" (aa (ab 0) (aa (ab 2) (aa (ab 5) (aa (ab 4) ae))))) (run pg (j+9)) [some (.ref 1),e1,some (.ref (nd+1+1)),e3,some (.int many),some (.ref (np+1+1)),e6,e7,e8] x (aI ns::aF k o::g)= .ok (some (cZ r)) (aI ns::aF k1 o1::g):=by
     simp? [q4]
    have hz:ys.length < sizeLine:=Nat.lt_of_lt_of_le (show ys.length < 1001 by omega) (by decide);rw[P3.jK,if_pos ⟨eW,hz⟩,st,cL];simpa using r5
end
noncomputable def dI(h:Str × List Rw):PV:= .tup [.str h.1,au h.2]
theorem nM: ∀ hs:List (Str × List Rw),PV.dE (hs.map dI)=true
 | []=>rfl
 | h::r=>by simp only[List.map_cons,PV.dE,nM r,dI,PV.flat,au,pC,Bool.and_self]
theorem ye(n:Nat):(bq 0 n).length=n:=by
 rw[show bq 0 n=(List.range n).map (λi:Nat=>PV.int (0+(i:Int))) from rfl,List.length_map,List.length_range]
section
variable{pg:Tb}(T:cP pg)
include T
theorem Aw(j:Nat){ns:List Int}(hn:ns.length<=63){np nd b5:Nat}{ps L:List Str}(p0:0 < ps.length)(p9:ps.length<=1000)(hL: ∀ x∈ps,x∈L){s1 s2 s3 s4 s5:List Str}{B:PH}(hN:eN B nd s1 s2 s3 s4 s5)(hp:B[np]?=some (.lst (ps.map PV.str)))(h5:B[b5]?=some (.lst (s5.map PV.str)))(u1 u3 n8:Option PV) :
  ∀(xs:List Str)(hs:List (Str × List Rw))(k:Int)(o:Option Int)(g2:PH)(u4 u7:Option PV),0<=k->k+2600*xs.length<=1000000->hs.length+xs.length<=100-> ∃(hs':List (Str × List Rw))(k':Int)(o':Option Int)(g3:PH)(u4' u7':Option PV),
   hs'.length=xs.length/\(∀ h∈hs',h.2.length<=30/\ ∀ r∈h.2,cO L h.2.length r/\jY r)/\k<=k'/\k'<=k+2600*xs.length /\
   bF ⟨some (b5+1+1),s5.map PV.str⟩ (bW (gN 7) (ai (ak (ag ar (aH (aa (ah "_law_pick" (aa (ab 0) (aa (eC (.int 4)) ae))) (aa (ag aE (eC (.int 3)) (ah "_law_pick" (aa (ab 0) (aa (eC (.int 6)) ae)))) (aa (ag aE (eC (.int 3)) (ah "_law_pick" (aa (ab 0) (aa (eC (.int 6)) ae)))) (aa (eC (.int 30)) ae))))) (ah "_law_pick" (aa (ab 0) (aa (eC (.int 4)) ae)))) (gN 4))
  (fT (eM cV eG (ab 6) (aa (aA (aa (ab 7) (aa (eB bC (aa (oZ 1 (dy (aa (ab 4) ae)) (gN 9) fm (ah "_law_row" (aa (ab 0) (aa (ab 2) (aa (ab 5) (aa (ab 4) ae)))))) ae)) ae))) ae)))) (run pg (j+9))) (xs.map PV.str)
    [some (.ref 1),u1,some (.ref (nd+1+1)),u3,u4,some (.ref (np+1+1)),some (.ref (B.length+1+1)),u7,n8] (aI ns::aF k o::(B++(.lst (hs.map dI)::g2))) =
   .ok (.nx [some (.ref 1),u1,some (.ref (nd+1+1)),u3,u4',some (.ref (np+1+1)),some (.ref (B.length+1+1)),u7',n8]) (aI ns::aF k' o'::(B++(.lst ((hs++hs').map dI)::g3))):=by
 have fin1: ∀(k:Int)(o:Option Int)(g:PH),hW.fH ⟨some (b5+1+1),s5.map PV.str⟩ (aI ns::aF k o::(B++g))=true:=λk o g=>iN (show(B++g)[b5]?=_ from(aU (bD h5)).trans h5);intro xs
 induction xs with
 | nil=>intro hs k o g2 u4 u7 k0 k9 _;exact⟨[],k,o,g2,u4,u7,rfl,λh m=>(nomatch m),by omega,by simp,by rw[List.map_nil,mE (fin1 _ _ _),List.append_nil]⟩
 | cons x xs ih =>
  intro hs k o g2 u4 u7 k0 k9 hl
  rw[List.length_cons] at k9 hl
  obtain⟨a,a0,a1,ea⟩:=aX T (j+7) (B++(.lst (hs.map dI)::g2)) hn o (k:=k) 4 k0 (by omega) (by decide) (by decide)
  obtain⟨b,b0,b1,eb⟩:=aX T (j+7) (B++(.lst (hs.map dI)::g2)) hn o (k:=k+1) 6 (by omega) (by omega) (by decide) (by decide)
  obtain⟨c,c0,c1,ec⟩:=aX T (j+7) (B++(.lst (hs.map dI)::g2)) hn o (k:=k+1+1) 6 (by omega) (by omega) (by decide) (by decide)
  obtain⟨d,d0,d1,ed⟩:=aX T (j+7) (B++(.lst (hs.map dI)::(g2++[.lst [.int a,.int (3+b),.int (3+c),.int 30]]))) hn o (k:=k+1+1+1) 4 (by omega) (by omega) (by decide) (by decide)
  obtain⟨m,m0,m9,em⟩:=E8 d0 d1 a0 a1 b0 b1 c0 c1
  have ml:(bq 0 m.toNat).length=m.toNat:=ye _
  obtain⟨rs,k1,o1,r1,r2,r3,r4,r5⟩:=Cp T j hn p0 p9 hL (g:=B++(.lst (hs.map dI)::(g2++[.lst [.int a,.int (3+b),.int (3+c),.int 30]]))) hN.app ((aU (bD hp)).trans hp) m m0 m9 (bq 0 m.toNat) u1 u3 (some (.ref (B.length+1+1))) (some (.str x)) n8 (bq 0 m.toNat) [] (k+1+1+1+1) o (by omega) (by omega) (by rw[ml];simp;omega)
  rw[ml] at r1 r4
  obtain⟨hs',k2,o2,g3,u4',u7',q1,q2,q3,q4,q5⟩:=ih (hs++[(x,rs)]) k1 o1 (g2++[.lst [.int a,.int (3+b),.int (3+c),.int 30],.lst (rs.map cZ)]) (some (.int m)) (some (.str x)) (by omega) (by omega) (by simp;omega)
  refine⟨(x,rs)::hs',k2,o2,g3,u4',u7',by simp[q1],λh mm=>?_,by omega,by rw[List.length_cons];omega,?_⟩
  . rcases List.mem_cons.mp mm with rfl | mm
    . exact⟨by show rs.length<=30;omega,λr mr=>by show cO L rs.length r/\jY r;rw[r1];exact r2 r mr⟩
    . exact q2 h mm
  . rw[List.map_cons,iU (fin1 _ _ _)];have hz:(hs.map dI).length < 16777216:=by rw[List.length_map];omega
    have e2:(hs++[(x,rs)]).map dI=hs.map dI++[.tup [.str x,.tup (rs.map cZ)]]:=by rw[List.map_append];rfl
    rw[e2] at q5;rw[show hs++(x,rs)::hs'=hs++[(x,rs)]++hs' by simp];rw[List.nil_append] at r5;simp? [ea,eb,ec,ed,em,r5,xb hz,cB,q5]
theorem yK(j:Nat){ns:List Int}(hn:ns.length<=63){b1:Nat}{s1:List Str}{B:PH}(h1:B[b1]?=some (.lst (s1.map PV.str)))(o:Option Int)(e1 e2 e3 e4 e5 e6 e7 e8:Option PV) :
  ∀(xs:List Str)(ys:List PV)(k:Int)(g2:PH),0<=k->k+2*xs.length<=1000000->ys.length+xs.length<=1000-> ∃(bs:List PV)(k':Int)(g3:PH),PV.dE bs=true/\((∀ b∈bs,∃(x:Str)(n:Int),b= .tup [.str x,.int n])/\bs.length=xs.length)/\k<=k'/\k'<=k+2*xs.length /\
   jK ⟨some (b1+1+1),s1.map PV.str⟩ (bU 1 (gN 9) fm (aA (aa (ab 9) (aa (ag ar (aH (aa (eC (.int 0)) (aa (eC (.int 1)) (aa (eC (.int 999)) (aa (ah "_law_pick" (aa (ab 0) (aa (eC (.int 1000)) ae))) ae))))) (ah "_law_pick" (aa (ab 0) (aa (eC (.int 4)) ae)))) ae))) (run pg (j+2)) [some (.ref 1),e1,e2,e3,e4,e5,e6,e7,e8]) (xs.map PV.str) ys (aI ns::aF k o::(B++g2))= .ok (ys++bs) (aI ns::aF k' o::(B++(g2++g3))):=by
 have fin1: ∀(k:Int)(o:Option Int)(g:PH),hW.fH ⟨some (b1+1+1),s1.map PV.str⟩ (aI ns::aF k o::(B++g))=true:=λk o g=>iN (show(B++g)[b1]?=_ from(aU (bD h1)).trans h1);intro xs
 induction xs with
 | nil=>intro ys k g2 k0 k9 _;exact⟨[],k,[],rfl,⟨(λb m=>nomatch m),rfl⟩,by omega,by simp,by rw[List.map_nil,P3.jK,if_pos (fin1 _ _ _)];simp⟩
 | cons x xs ih =>
  intro ys k g2 k0 k9 hl
  rw[List.length_cons] at k9 hl
  obtain⟨a,a0,a1,ea⟩:=aX T j (B++g2) hn o (k:=k) 1000 k0 (by omega) (by decide) (by decide)
  obtain⟨b,b0,b1,eb⟩:=aX T j (B++(g2++[.lst [.int 0,.int 1,.int 999,.int a]])) hn o (k:=k+1) 4 (by omega) (by omega) (by decide) (by decide)
  obtain⟨n,en⟩:=Ji (w:=a) b0 b1
  obtain⟨bs,k2,g3,q1,q5,q2,q3,q4⟩:=ih (ys++[.tup [.str x,.int n]]) (k+1+1) (g2++[.lst [.int 0,.int 1,.int 999,.int a]]) (by omega) (by omega) (by simp;omega)
  refine⟨.tup [.str x,.int n]::bs,k2,.lst [.int 0,.int 1,.int 999,.int a]::g3,by rw[PV.dE,q1];rfl,⟨λb m=>(List.mem_cons.mp m).elim (λe=>⟨x,n,e⟩) (q5.1 b),by simp[q5.2]⟩,by omega,by rw[List.length_cons];omega,?_⟩
  have st:bU 1 (gN 9) fm (aA (aa (ab 9) (aa (ag ar (aH (aa (eC (.int 0)) (aa (eC (.int 1)) (aa (eC (.int 999)) (aa (ah "_law_pick" (aa (ab 0) (aa (eC (.int 1000)) ae))) ae))))) (ah "_law_pick" (aa (ab 0) (aa (eC (.int 4)) ae)))) ae))) (run pg (j+2)) [some (.ref 1),e1,e2,e3,e4,e5,e6,e7,e8] (.str x) (aI ns::aF k o::(B++g2))= .ok (some (.tup [.str x,.int n])) (aI ns::aF (k+1+1) o::(B++(g2++[.lst [.int 0,.int 1,.int 999,.int a]]))):=by
   simp? [ea,eb,en]
  have hz:ys.length < sizeLine:=Nat.lt_of_lt_of_le (show ys.length < 1001 by omega) (by decide)
  rw[List.map_cons,P3.jK,if_pos ⟨fin1 _ _ _,hz⟩,st,cL]
  simpa using q4
end
noncomputable def aQ:List Str:=["a", "ab", "boxes", "b", "lets"]
structure iH (L:List Str) (s2:List Str) (hs:List (Str × List Rw)) (p:PV):Prop where
 len:L.length<=10
 Pt: ∀ x∈aQ,x∈L
 FP:s2.length<=10
 Qk:s2.Nodup
 many:1<=hs.length/\hs.length<=4
 rows: ∀ h∈hs,h.2.length<=30/\ ∀ r∈h.2,cO L h.2.length r
 Qi: ∀ h∈hs,∀ r∈h.2,jY r
 at_: ∃ bs s3 s4:List PV,p= .tup [.tup bs,.tup (s2.map PV.str),.tup s3,.tup s4,.tup (hs.map dI)]
 flat:p.flat=true
 Qj: ∀ bs l2 l3 l4 l5:List PV,p= .tup [.tup bs,.tup l2,.tup l3,.tup l4,.tup l5]->(∀ b∈bs,∃(x:Str)(n:Int),b= .tup [.str x,.int n])/\bs.length<=10/\l2.length<=10/\l3.length<=10/\l4.length<=10
section
variable{pg:Tb}(T:cP pg)
include T
theorem oz(j:Nat){ns:List Int}(hn:ns.length<=63)(k:Int)(o:Option Int)(g:PH)(k0:0<=k)(k9:k+11000<=1000000) :
  ∃(L s2:List Str)(hs:List (Str × List Rw))(p:PV)(k':Int)(o':Option Int),iH L s2 hs p/\k<=k'/\k'<=k+11000/\run pg (j+10) "_law_program" [.ref 1] (aI ns::aF k o::g)= .ok p (aI ns::aF k' o'::g):=by
 obtain⟨g1,n,nm,a1,a2,a3,a5,a4⟩:=zu T (j+6) hn k o g k0 (by omega);obtain⟨g2,nn,nd,s1,s2,s3,s4,s5,n5,u3,u4,b1,b2,b3,b4,b5,b7,b6⟩:=xy T (j+7) hn (k+1) o (g++g1) a1 (by omega) (by omega) a2 a3;obtain⟨g3,np,ps,c1,c2,c3,c4⟩:=vC T (j+7) hn (k+1+5) o (g++g1++g2) b1 b2 (by omega) (by omega) u3 u4 none none;have NB:eN (g++g1++g2++g3) nd s1 s2 s3 s4 s5:=b1.app;generalize hB:g++g1++g2++g3=B at *;have NB':=NB;obtain⟨⟨x1,x2,x3,x4,x5,e0,e1,e2,e3,e4,e5⟩,_,l1,l2,l3,l4,l5⟩:=NB';obtain⟨w1,w2,w3,w4,w5⟩:=iY (b1:=x1+1+1) (b2:=x2+1+1) (b3:=x3+1+1) (b4:=x4+1+1) (b5:=x5+1+1);obtain⟨hs,k1,o1,g4,v4,v7,d1,d2,d3,d4,d5⟩:=Aw T j hn (L:=ps++aQ) c2 (by omega) (λx m=>List.mem_append_left _ m) NB c1 e5 (some (.ref (nn+1+1))) u3 none s5 [] (k+1+5+1) o [] u4 none (by omega) (by omega) (by simp;omega);obtain⟨bs,k2,g5,f1,f5,f2,f3,f4⟩:=yK T (j+7) hn e1 o1 (some (.ref (nn+1+1))) (some (.ref (nd+1+1))) u3 v4 (some (.ref (np+1+1))) (some (.ref (B.length+1+1))) v7 none s1 [] k1 (.lst (hs.map dI)::g4) (by omega) (by omega) (by simp;omega);have pf:PV.flat (.tup [.tup bs,.tup (s2.map PV.str),.tup (s3.map PV.str),.tup (s4.map PV.str),.tup (hs.map dI)])=true:=by
  simp only[PV.flat,PV.dE,f1,kA,nM,Bool.and_self]
 refine⟨ps++aQ,s2,hs,_,k2,o1,⟨by simp only[List.length_append];have:aQ.length=5:=rfl;omega,λx m=>List.mem_append_right _ m,l2,by rw[<- b7] at a5;exact(List.nodup_append.mp (List.nodup_append.mp a5).2.1).1,by omega,(λh m=>⟨(d2 h m).1,λr mr=>((d2 h m).2 r mr).1⟩),(λh m r mr=>((d2 h m).2 r mr).2),⟨bs,s3.map PV.str,s4.map PV.str,rfl⟩,pf,λb' c2 c3 c4 c5 e=>by
  cases e;exact⟨f5.1,by rw[f5.2];exact l1,by rw[List.length_map];exact l2,by rw[List.length_map];exact l3,by rw[List.length_map];exact l4⟩⟩,by omega,by omega,?_⟩
 rw[run_eq T.m6 rfl];unfold cR fA;have s0: ∀ rest,ai (ak (ah "_law_names" (aa (ab 0) ae)) (gN 1)) rest (run pg (j+9)) [some (.ref 1),none,none,none,none,none,none,none,none] (aI ns::aF k o::g)=rest (run pg (j+9)) [some (.ref 1),some (.ref (n+1+1)),none,none,none,none,none,none,none] (aI ns::aF (k+1) o::(g++g1)):=λrest=>by
  simp? [a4]
 refine(congrArg (fin _) ((s0 _).trans ((b6 _).trans (c4 _)))).trans ?_;have o0: ∀ G:PH,(B++G)[nd]?=_:=λG=>(aU (bD e0)).trans e0;have y1: ∀ G:PH,(B++G)[x1]?=_:=λG=>(aU (bD e1)).trans e1;have y2: ∀ G:PH,(B++G)[x2]?=_:=λG=>(aU (bD e2)).trans e2;have y3: ∀ G:PH,(B++G)[x3]?=_:=λG=>(aU (bD e3)).trans e3;have y4: ∀ G:PH,(B++G)[x4]?=_:=λG=>(aU (bD e4)).trans e4;have y5: ∀ G:PH,(B++G)[x5]?=_:=λG=>(aU (bD e5)).trans e5;rw[List.map_nil,List.nil_append] at d5;rw[List.nil_append,List.cons_append] at f4;simp? [o0,w1,w2,w3,w4,w5,y1,y2,y3,y4,y5,d5,f4];rw[<- hB];simp only[List.append_assoc];exact c7 pf
end
noncomputable def uP(a b:Int):List (Key × PV):=[(.inr "add",.int ((a+b) % 1000)),(.inr "sub",.int ((a - b) % 1000)),(.inr "mul",.int (a*b % 1000))]
theorem qL(a b:Int)(u v:PV):bH [] (uP a b)=uP a b/\eQ (uP a b) (.inr "less") u=uP a b++[(.inr "less",u)]/\eQ (uP a b++[(.inr "less",u)]) (.inr "same") v=uP a b++[(.inr "less",u),(.inr "same",v)]:=by
 refine⟨?_,?_,?_⟩<;>simp[uP,bH,eQ,aV]
theorem HP(o:Bo)(a b:Int):bV (uP a b++[(.inr "less",.int (if a < b then 1 else 0)),(.inr "same",.int (if a=b then 1 else 0))]) (.inr o.w)=some (.int (o.f a b)):=by
 cases o<;>simp[uP,bV,aV,Bo.w,Bo.f]
section
variable{pg:Tb}(T:cP pg)
include T
theorem rY{D:Pk}{n:Nat}(hf: ∀ x,0<=fP D x/\fP D x<=999): ∀(e:Sm)(k:Nat)(h:PH),h[n]?=some (.dct (bO D))->e.ok->e.dp<=k->run pg (k+1) "_law_worth" [ee e,.ref n] h= .ok (.int (e.val (fP D))) h
 | .num i,k,h,hn,ho,hk=>by
  rw[run_eq T.eS rfl];simp? [bJ,cE,ee,Sm.val]
 | .of x,k,h,hn,ho,hk=>by
  rw[run_eq T.eS rfl];simp? [bJ,cE,ee,Sm.val,hn,vB]
 | .un a,k,h,hn,ho,hk=>by
  obtain⟨k,rfl⟩: ∃ j,k=j+1:=⟨k - 1,by unfold Sm.dp at hk;omega⟩
  have ih:=rY hf a k h hn ho (by unfold Sm.dp at hk;omega);have e1:jK ⟨none,[ee a]⟩ (bU 1 (gN 6) fm (ah "_law_worth" (aa (ab 6) (aa (ab 1) ae))) (run pg (k+1)) [some (.tup [.str "not",ee a]),some (.ref n),none,none,none,none]) [ee a] [] h= .ok [.int (a.val (fP D))] h:=by
   have:=fY (it:=⟨none,[ee a]⟩) (h:=h) eW (step:=bU 1 (gN 6) fm (ah "_law_worth" (aa (ab 6) (aa (ab 1) ae))) (run pg (k+1)) [some (.tup [.str "not",ee a]),some (.ref n),none,none,none,none]) (f:=λe:Sm=>some (PV.int (e.val (fP D)))) (g:=ee) [a] [] (λx m=>by
    rw[List.mem_singleton] at m;subst m;simp? [ih]) (show 1+0<=16777216 by decide)
   exact this
  rw[run_eq T.eS rfl];simp? [bJ,cE,ee,Sm.val,Jn,e1,DL];split<;>exact bP rfl
 | .bin o a b,k,h,hn,ho,hk=>by
  obtain⟨k,rfl⟩: ∃ j,k=j+1:=⟨k - 1,by unfold Sm.dp at hk;omega⟩
  have ih1:=rY hf a k h hn ho.1 (by unfold Sm.dp at hk;omega);have ih2:=rY hf b k h hn ho.2 (by unfold Sm.dp at hk;omega);have va:=Sm.kK hf a ho.1;have vb:=Sm.kK hf b ho.2;show run pg (k+1+1) "_law_worth" [.tup [.str o.w,ee a,ee b],.ref n] h= .ok (.int (o.f (a.val (fP D)) (b.val (fP D)))) h;generalize a.val (fP D)=x at ih1 va ⊢;generalize b.val (fP D)=y at ih2 vb ⊢;have e1:jK ⟨none,[ee a,ee b]⟩ (bU 1 (gN 6) fm (ah "_law_worth" (aa (ab 6) (aa (ab 1) ae))) (run pg (k+1)) [some (.tup [.str o.w,ee a,ee b]),some (.ref n),none,none,none,none]) [ee a,ee b] [] h= .ok [.int x,.int y] h:=by
   have:=fY (it:=⟨none,[ee a,ee b]⟩) (h:=h) eW (step:=bU 1 (gN 6) fm (ah "_law_worth" (aa (ab 6) (aa (ab 1) ae))) (run pg (k+1)) [some (.tup [.str o.w,ee a,ee b]),some (.ref n),none,none,none,none]) (f:=λq:PV × Int=>some (PV.int q.2)) (g:=λq:PV × Int=>q.1) [(ee a,x),(ee b,y)] [] (λq m=>by
    rcases List.mem_cons.mp m with rfl | m
    . simp? [ih1]
    . rw[List.mem_singleton] at m;subst m;simp? [ih2]) (show 2+0<=16777216 by decide)
   exact this
  rw[run_eq T.eS rfl];have dk:IG (h.length+(0+1)) (uP x y) (h++[.lst [.int x,.int y],.dct []])= .ok (.ref (h.length+(0+1))) (h++[.lst [.int x,.int y],.dct (uP x y)]):=by
   have:=qz (h:=h++[.lst [.int x,.int y]]) (kvs:=uP x y) (show 3<=15 by decide);rw[(qL x y .non .non).1] at this;simpa using this
  have l3:(uP x y).length < 16777216:=by show 3 < 16777216;decide
  have l4: ∀ u,(uP x y++[((.inr "less" :Key),u)]).length < 16777216:=λu=>by show 4 < 16777216;decide
  have p3:=λu=>(qL x y u .non).2.1;have p4:=λu v=>(qL x y u v).2.2;have tv:=HP o x y;have ne: ¬ o.w= "not" :=by cases o<;>decide
  have n1: ¬ o.w= "num" :=by cases o<;>decide
  have n2: ¬ o.w= "of" :=by cases o<;>decide
  unfold uP at dk l3 l4 p3 p4 tv;simp only[List.cons_append,List.nil_append] at l4 p3 p4 tv;by_cases c2:x=y
  . subst c2;have c1: ¬ x < x:=by omega
    simp only[c1,eq_self,if_true,if_false,reduceIte] at tv;simp? (disch:=first | omega | exact l3 | exact l4 _) only[bJ,cE,n1,n2,ne,c1,eq_self,Jn,e1,vS,BB,vH,mh,qH,mG,qq,qP,rp,dk,nI,p3,p4,tv];exact bP (v:= .int _) rfl
  . by_cases c1:x < y<;>simp only[c1,c2,if_true,if_false,reduceIte] at tv <;>
     (simp? (disch:=first | omega | exact l3 | exact l4 _) only[bJ,cE,n1,n2,ne,c1,c2,Jn,e1,vS,BB,vH,mh,qH,mG,qq,qP,rp,dk,nI,p3,p4,tv];exact bP (v:= .int _) rfl)
end
structure t9(L:List Str)(D:Pk):Prop where
 nd:(D.map (·.1)).Nodup
 mem: ∀ q∈D,q.1∈L/\0<=q.2/\q.2<=999
noncomputable def putD(D:Pk)(x:Str)(v:Int):Pk:=if x∈D.map (·.1) then D.map (λq=>if q.1=x then(q.1,v) else q) else D++[(x,v)]
theorem ug(D:Pk)(x:Str)(v:Int):(D.map (λq=>if q.1=x then(q.1,v) else q)).map (·.1)=D.map (·.1):=by
 rw[List.map_map];refine List.map_congr_left λq _=>?_;show(if q.1=x then(q.1,v) else q).1=q.1;split<;>rfl
theorem wj(D:Pk)(x:Str)(v:Int):eQ (bO D) (.inr x) (.int v)=bO (putD D x v):=by
 unfold eQ putD;have e:((bO D).any λkv=>decide (kv.1= .inr x))=decide (x∈D.map (·.1)):=by
  rw[Bool.eq_iff_iff];simp only[List.any_eq_true,decide_eq_true_eq,bO,List.mem_map];constructor
  . rintro ⟨kv,⟨q,m,rfl⟩,e⟩;exact⟨q,m,Sum.inr.inj e⟩
  . rintro ⟨q,m,rfl⟩;exact⟨_,⟨q,m,rfl⟩,rfl⟩
 rw[e];by_cases h:x∈D.map (·.1)
 . rw[if_pos (by simpa only[decide_eq_true_eq] using h),if_pos h];unfold bO;rw[List.map_map];rw[List.map_map];refine List.map_congr_left λq _=>?_;show(if (Sum.inr q.1:Key)=Sum.inr x then((Sum.inr q.1:Key),PV.int v) else(Sum.inr q.1,PV.int q.2))=_;by_cases z:q.1=x
   . rw[if_pos (by rw[z])];simp[z]
   . rw[if_neg (λe=>z (Sum.inr.inj e))];simp[z]
 . rw[if_neg (by simpa only[decide_eq_true_eq] using h),if_neg h];unfold bO;rw[List.map_append];rfl
theorem uA(x:Str)(v:Int)(y:Str): ∀ D:Pk,x∈D.map (·.1)->fP (D.map (λq=>if q.1=x then(q.1,v) else q)) y=if y=x then v else fP D y
 | q::r,h=>by
  rw[List.map_cons,fP,fP];by_cases z:q.1=x
  . rw[if_pos z];by_cases w:y=x
    . subst w;rw[if_pos z,if_pos rfl]
    . rw[if_neg (λe=>w (e.symm.trans z)),if_neg w,if_neg (λe=>w (e.symm.trans z))];by_cases hr:x∈r.map (·.1)
      . rw[uA x v y r hr,if_neg w]
      . congr 1;refine(List.map_congr_left λp m=>?_).trans (List.map_id _);show(if p.1=x then(p.1,v) else p)=p;rw[if_neg (λe=>hr (List.mem_map.mpr ⟨p,m,e⟩))]
  . rw[if_neg z];have hr:x∈r.map (·.1):=by
     rcases List.mem_cons.mp h with e | m
     . exact absurd e.symm z
     . exact m
    rw[uA x v y r hr];by_cases w:q.1=y
    . rw[if_pos w,if_pos w,if_neg (λe=>z (w.trans e))]
    . rw[if_neg w,if_neg w]
theorem AY(x:Str)(v:Int)(y:Str): ∀ D:Pk,x ∉ D.map (·.1)->fP (D++[(x,v)]) y=if y=x then v else fP D y
 | [],_=>by
  rw[List.nil_append,fP,fP];by_cases w:y=x
  . rw[if_pos w,if_pos w.symm]
  . rw[if_neg w,if_neg (λe=>w e.symm)];rfl
 | q::r,h=>by
  rw[List.map_cons,List.mem_cons,not_or] at h;rw[List.cons_append,fP,fP,AY x v y r h.2];by_cases w:q.1=y
  . rw[if_pos w,if_pos w,if_neg (λe=>h.1 (e.symm.trans w.symm))]
  . rw[if_neg w,if_neg w]
theorem wD(D:Pk)(x:Str)(v:Int)(y:Str):fP (putD D x v) y=if y=x then v else fP D y:=by
 unfold putD;split
 . rename_i h;exact uA x v y D h
 . rename_i h;exact AY x v y D h
theorem wz{L:List Str}{D:Pk}{x:Str}{v:Int}(h:t9 L D)(hx:x∈L)(h0:0<=v)(h9:v<=999):t9 L (putD D x v):=by
 unfold putD;split
 . refine⟨by rw[ug];exact h.nd,λq m=>?_⟩;obtain⟨p,mp,rfl⟩:=List.mem_map.mp m;by_cases z:p.1=x
   . rw[if_pos z];exact⟨(h.mem p mp).1,h0,h9⟩
   . rw[if_neg z];exact h.mem p mp
 . rename_i hn;refine⟨?_,λq m=>?_⟩
   . rw[List.map_append];refine List.nodup_append.mpr ⟨h.nd,by simp,λa ha b hb e=>?_⟩;have hb':b=x:=by simpa using hb
     exact hn (by rw[<- hb',<- e];exact ha)
   . rcases List.mem_append.mp m with m | m
     . exact h.mem q m
     . rw[List.mem_singleton.mp m];exact⟨hx,h0,h9⟩
theorem t9.Ba{L:List Str}{D:Pk}(h:t9 L D): ∀ x,0<=fP D x/\fP D x<=999:=λx=>by
 by_cases hx:x∈D.map (·.1)
 . obtain⟨q,m,rfl⟩:=List.mem_map.mp hx;rw[k7 h.nd q m];exact(h.mem q m).2
 . rw[jw hx];decide
theorem set_same{h:PH}{n:Nat}{o:PO}(e:h[n]?=some o):h.set n o=h:=by
 refine List.ext_getElem? λi=>?_;by_cases z:n=i
 . subst z;rw[List.getElem?_set_self (bD e),e]
 . rw[List.getElem?_set_ne z]
section
variable{pg:Tb}(T:cP pg)
include T
theorem gF(k:Nat)(h:PH)(n:Nat){rs:List Rw}{s:aR}(hs:s.row<=rs.length)(hr:bf rs s=true):run pg (k+1) "_law_own" [au rs,.int s.row,.ref n,cH s.held] h= .ok .non h:=by
 rw[run_eq T.nP rfl];cases e:rs[s.row]? with
 | none =>
  have:s.row=rs.length:=by have:=List.getElem?_eq_none_iff.mp e;omega
  simp? [bu,bQ,au,this,List.length_map]
 | some r =>
  have hlt:s.row < rs.length:=(List.getElem?_eq_some_iff.mp e).1
  have ne: ¬ (s.row:Int)=(rs.length:Int):=by omega
  have ix:=nF (h:=h) (eJ e)
  have ho:own s.held r=false:=by unfold bf at hr;rw[e] at hr;simpa using hr
  cases r with
  | take l =>
   have hl: ¬ l∈s.held:=by simpa [own] using ho
   simp? [bu,bQ,au,ne,ix,cZ,Rw.w,Rw.ps,cH,hl,List.length_map]
  | free l =>
   have hl:l∈s.held:=by simpa [own] using ho
   simp? [bu,bQ,au,ne,ix,cZ,Rw.w,Rw.ps,cH,hl,List.length_map]
  | let_ x e0=>exact nomatch ho
  | leap x e0=>exact nomatch ho
  | _=>simp? [bu,bQ,au,ne,ix,cZ,Rw.w,Rw.ps,cH,List.length_map]
theorem gW(k:Nat)(h:PH)(n:Nat){L:List Str}{rs:List Rw}{s:aR}{r:Rw}{D:Pk}(e:rs[s.row]?=some r)(ho:own s.held r=true)(hr:cO L rs.length r)(hn:h[n]?=some (.dct (bO D)))(hD:t9 L D)(hf: ∀ x,fP D x=fP s.ps x)(nd:(s.ps.map (·.1)).Nodup)(dl:D.length<=1000) :
  ∃ D':Pk,t9 L D'/\(∀ x,fP D' x=fP (behind s r).ps x)/\D'.length<=D.length+1/\run pg (k+9) "_law_own" [au rs,.int s.row,.ref n,cH s.held] h= .ok (.int (behind s r).row) (h.set n (.dct (bO D'))):=by
 have hlt:s.row < rs.length:=(List.getElem?_eq_some_iff.mp e).1;have ne: ¬ (s.row:Int)=(rs.length:Int):=by omega
 have ix:=nF (h:=h) (eJ e);have ff:fP D=fP s.ps:=funext hf;have w: ∀ e0:Sm,mN e0->run pg (k+8) "_law_worth" [ee e0,.ref n] h= .ok (.int (e0.val (fP s.ps))) h:=λe0 he=>by
  rw[<- ff];exact rY T hD.Ba e0 (k+7) h hn he.1 (by have:=he.2;omega)
 have hl9:(bO D).length < 16777216:=by unfold bO;rw[List.length_map];omega
 rw[run_eq T.nP rfl];cases r with
 | let_ x e0 =>
  have hv:=Sm.kK (f:=fP s.ps) (by rw[<- ff];exact hD.Ba) e0 hr.2.1
  refine⟨putD D x (e0.val (fP s.ps)),wz hD hr.1 hv.1 hv.2,λy=>?_,?_,?_⟩
  . rw[wD,behind,Be nd,hf]
  . unfold putD;split<;>simp
  . simp? [bu,bQ,au,ne,ix,cZ,Rw.w,Rw.ps,cH,List.length_map,w e0 hr.2,hn,nI hl9,wj,lu (o:=PO.dct (bO D)),behind];rfl
 | leap j e0 =>
  refine⟨D,hD,λy=>?_,by omega,?_⟩
  . rw[hf];show _=fP (if e0.val (fP s.ps)=0 then(⟨s.row+1,s.ps,s.held⟩:aR) else⟨j.toNat,s.ps,s.held⟩).ps y;split<;>rfl
  . rw[set_same hn];have hv:=Sm.kK (f:=fP s.ps) (by rw[<- ff];exact hD.Ba) e0 hr.2.2.1;by_cases z:e0.val (fP s.ps)=0
    . have z': ¬ 0 < e0.val (fP s.ps):=by omega
      simp? [bu,bQ,au,ne,ix,cZ,Rw.w,Rw.ps,cH,List.length_map,w e0 hr.2.2,z',behind,z];rfl
    . have z':0 < e0.val (fP s.ps):=by omega
      have jj:((j.toNat:Nat):Int)=j:=by have:=hr.1;omega
      simp? [bu,bQ,au,ne,ix,cZ,Rw.w,Rw.ps,cH,List.length_map,w e0 hr.2.2,z',behind,z,jj]
 | take l =>
  have hl:l∈s.held:=by simpa [own] using ho
  refine⟨D,hD,hf,by omega,?_⟩
  rw[set_same hn]
  simp? [bu,bQ,au,ne,ix,cZ,Rw.w,Rw.ps,cH,hl,behind,List.length_map]
  rfl
 | free l =>
  have hl: ¬ l∈s.held:=by simpa [own] using ho
  refine⟨D,hD,hf,by omega,?_⟩
  rw[set_same hn]
  simp? [bu,bQ,au,ne,ix,cZ,Rw.w,Rw.ps,cH,hl,behind,List.length_map]
  rfl
 | _=>exact nomatch ho
end
theorem jM{t:ax->PH->RV Bool}{b:ax->PH->RV Fl}{f:Nat}{e:ax}{h h1:PH}(ht:t e h= .ok false h1):dH t b (f+1) e h= .ok (.nx e) h1:=by
 rw[dH,ht,cL];rfl
theorem sJ{t:ax->PH->RV Bool}{b:ax->PH->RV Fl}{f:Nat}{e e1:ax}{h h1 h2:PH}(ht:t e h= .ok true h1)(hb:b e h1= .ok (.nx e1) h2):dH t b (f+1) e h=dH t b f e1 h2:=by
 rw[dH,ht,cL,if_pos rfl,hb,cL]
theorem pW{h g:PH}{D:Pk}(nd:(D.map (·.1)).Nodup)(dl:D.length<=1000):eR [.ref h.length] (h++ .dct (bO D)::g)= .ok (.ref (h.length+(g.length+1))) (h++ .dct (bO D)::(g++[.dct (bO D)])):=by
 have e:(h++ .dct (bO D)::g)[h.length]?=some (.dct (bO D)):=aY;have z:(bO D).length<=sizeLine:=by unfold bO;rw[List.length_map];exact Nat.le_trans dl (by decide)
 simp only[eR,e,if_pos z,kb nd,List.length_append,List.length_cons,List.append_assoc,List.cons_append]
theorem t9.len{L:List Str}{D:Pk}(h:t9 L D):D.length<=L.length:=by
 have:=List.Nodup.length_le_of_subset h.nd (l₂ :=L) (λx hx=>by obtain⟨q,hq,rfl⟩:=List.mem_map.mp hx;exact(h.mem q hq).1);simpa using this
theorem fW(s:aR)(r:Rw):(behind s r).held=s.held:=by
 cases r with
 | leap j e0=>show(if e0.val (fP s.ps)=0 then(⟨s.row+1,s.ps,s.held⟩:aR) else⟨j.toNat,s.ps,s.held⟩).held=s.held;split<;>rfl
 | _=>rfl
theorem jH{rs:List Rw}{s:aR}(h:bf rs s=false): ∃ r,rs[s.row]?=some r/\own s.held r=true:=by
 unfold bf at h;cases e:rs[s.row]? with
 | none=>rw[e] at h;exact nomatch h
 | some r=>rw[e] at h;exact⟨r,rfl,by simpa using h⟩
section
variable{pg:Tb}(T:cP pg)
include T
theorem xI(k:Nat)(h:PH){L:List Str}(hL:L.length<=20){rs:List Rw}(hr: ∀ r∈rs,cO L rs.length r)(s0:aR): ∀(m i:Nat)(t:aR)(D:Pk)(g:PH)(a0:Int)(u6:Option PV)(f:Nat),i+m=199->m+2<=f->cG L rs t->t.held=s0.held->t9 L D->(∀ x,fP D x=fP t.ps x) ->
  ∃(n':Nat)(D':Pk)(G:PH)(p':Int)(u6':Option PV),(h++G)[n']?=some (.dct (bO D'))/\t9 L D'/\(∀ x,fP D' x=fP (aW rs m t).ps x) /\
  dH (aq (oH (dO true) (ab 5)) (run pg (k+9))) ((ai (ak (ab 5) (gN 3))
  (ai (ak (ag aE (ab 4) (eC (.int 1))) (gN 4))
  (ai (ak (eB eR (aa (ab 2) ae)) (gN 6))
  (ai (ak (ah "_law_own" (aa (ab 0) (aa (ab 3) (aa (ab 2) (aa (ag ar (ab 1) (eC (.int 2))) ae))))) (gN 5))
  (bt (kF (aq (ag cm (ab 4) (eC (.int 200)))) (aq (oH (dO true) (ab 5)))) (ai (ak (ab 6) (gN 2))
  (ai (ak (eB bN (aa (ab 0) ae)) (gN 3))
  (ak (eC .non) (gN 5)))) bA))))) (run pg (k+9))) f [some (au rs),some (ao s0),some (.ref h.length),some (.int a0),some (.int i),some (.int t.row),u6] (h++ .dct (bO D)::g) =
  .ok (.nx [some (au rs),some (ao s0),some (.ref n'),some (.int (aW rs m t).row),some (.int p'),some .non,u6']) (h++G):=by
 intro m
 induction m with
 | zero =>
  intro i t D g a0 u6 f hi hf hs hh hD hp
  obtain⟨f,rfl⟩: ∃ j,f=j+1+1:=⟨f - 2,by omega⟩
  have ct:=pW (h:=h) (g:=g) hD.nd (by have:=hD.len;omega)
  have p200:(i:Int)+1=200:=by omega
  have hd:ar (ao s0) (.int 2) (h++ .dct (bO D)::(g++[.dct (bO D)]))= .ok (cH t.held) (h++ .dct (bO D)::(g++[.dct (bO D)])):=by rw[hh];rfl
  cases r1:bf rs t with
  | true =>
   have on:=gF T (k+8) (h++ .dct (bO D)::(g++[.dct (bO D)])) h.length hs.le r1
   have fr:aW rs 0 t=t:=by unfold aW;rw[if_pos r1]
   refine⟨h.length,D,.dct (bO D)::(g++[.dct (bO D)]),i+1,some (.ref (h.length+(g.length+1))),aY,hD,by rw[fr];exact hp,?_⟩
   rw[fr]
   rw[sJ (h1:=h++ .dct (bO D)::g) (e1:=[some (au rs),some (ao s0),some (.ref h.length),some (.int t.row),some (.int (i+1)),some .non,some (.ref (h.length+(g.length+1)))]) (h2:=h++ .dct (bO D)::(g++[.dct (bO D)])) ?_ ?_]
   . refine jM ?_;simp? [List.map_nil]
   . simp? [List.map_nil]
   . simp? [ct,hd,on,p200]
  | false =>
   obtain⟨r,e,ho⟩:=jH r1
   obtain⟨D1,q1,q2,q3,q4⟩:=gW T k (h++ .dct (bO D)::(g++[.dct (bO D)])) h.length e ho (hr r (List.mem_of_getElem? e)) aY hD hp hs.pk.nd (by have:=hD.len;omega)
   rw[eY,List.set_cons_zero] at q4
   have fr:aW rs 0 t=⟨rs.length,t.ps,t.held⟩:=by unfold aW;rw[if_neg (by simp[r1])]
   refine⟨h.length+(g.length+1),D,.dct (bO D1)::(g++[.dct (bO D)]),i+1,some (.ref (h.length+(g.length+1))),by rw[aJ,List.getElem?_cons_succ];exact aY,hD,by rw[fr];exact hp,?_⟩
   rw[fr]
   rw[sJ (h1:=h++ .dct (bO D)::g) (e1:=[some (au rs),some (ao s0),some (.ref (h.length+(g.length+1))),some (.int rs.length),some (.int (i+1)),some .non,some (.ref (h.length+(g.length+1)))]) (h2:=h++ .dct (bO D1)::(g++[.dct (bO D)])) ?_ ?_]
   . refine jM ?_;simp? [List.map_nil]
   . simp? [List.map_nil]
   . have rl:bN [au rs] (h++ .dct (bO D1)::(g++[.dct (bO D)]))= .ok (.int rs.length) (h++ .dct (bO D1)::(g++[.dct (bO D)])):=by unfold au;rw[len_T,List.length_map]
     simp? [ct,hd,q4,p200,rl]
 | succ m ih =>
  intro i t D g a0 u6 f hi hf hs hh hD hp
  obtain⟨f,rfl⟩: ∃ j,f=j+1+1:=⟨f - 2,by omega⟩
  have ct:=pW (h:=h) (g:=g) hD.nd (by have:=hD.len;omega)
  have n200: ¬ (i:Int)+1=200:=by omega
  have hd:ar (ao s0) (.int 2) (h++ .dct (bO D)::(g++[.dct (bO D)]))= .ok (cH t.held) (h++ .dct (bO D)::(g++[.dct (bO D)])):=by rw[hh];rfl
  cases r1:bf rs t with
  | true =>
   have on:=gF T (k+8) (h++ .dct (bO D)::(g++[.dct (bO D)])) h.length hs.le r1
   have fr:aW rs (m+1) t=t:=by unfold aW;rw[if_pos r1]
   refine⟨h.length,D,.dct (bO D)::(g++[.dct (bO D)]),i+1,some (.ref (h.length+(g.length+1))),aY,hD,by rw[fr];exact hp,?_⟩
   rw[fr]
   rw[sJ (h1:=h++ .dct (bO D)::g) (e1:=[some (au rs),some (ao s0),some (.ref h.length),some (.int t.row),some (.int (i+1)),some .non,some (.ref (h.length+(g.length+1)))]) (h2:=h++ .dct (bO D)::(g++[.dct (bO D)])) ?_ ?_]
   . refine jM ?_;simp? [List.map_nil]
   . simp? [List.map_nil]
   . simp? [ct,hd,on,n200]
  | false =>
   obtain⟨r,e,ho⟩:=jH r1
   have hm:=hr r (List.mem_of_getElem? e)
   obtain⟨D1,q1,q2,q3,q4⟩:=gW T k (h++ .dct (bO D)::(g++[.dct (bO D)])) h.length e ho hm aY hD hp hs.pk.nd (by have:=hD.len;omega)
   rw[eY,List.set_cons_zero] at q4
   have fr:aW rs (m+1) t=aW rs m (behind t r):=by rw[aW,if_neg (by simp[r1]),e]
   obtain⟨n',D',G,p',u6',w1,w2,w3,w4⟩:=ih (i+1) (behind t r) D1 (g++[.dct (bO D)]) t.row (some (.ref (h.length+(g.length+1)))) (f+1) (by omega) (by omega) (eX hs hm e) (by rw[fW];exact hh) q1 q2
   refine⟨n',D',G,p',u6',w1,w2,by rw[fr];exact w3,?_⟩
   rw[fr]
   rw[sJ (h1:=h++ .dct (bO D)::g) (e1:=[some (au rs),some (ao s0),some (.ref h.length),some (.int t.row),some (.int ((i+1:Nat):Int)),some (.int (behind t r).row),some (.ref (h.length+(g.length+1)))]) (h2:=h++ .dct (bO D1)::(g++[.dct (bO D)])) ?_ ?_]
   . exact w4
   . simp? [List.map_nil]
   . simp? [ct,hd,q4,n200];rfl
end
theorem n6{a b:MS}{c:CF}{e e1:ax}{h h1:PH}(q:a c e h= .ok (.nx e1) h1):ai a b c e h=b c e1 h1:=by rw[Aj,q,dU,wa]
theorem yY{t:MT}{b:MS}{c:CF}{e:ax}{h:PH}:qy t b c e h=dH (t c) (b c) 100000 e h:=(rfl)
theorem bT(ss:List Str):(aP ss).Perm ss:=List.mergeSort_perm ss _
theorem iS{ss:List Str}(nd:ss.Nodup):(aP ss).Pairwise hI:=by
 have h1:(aP ss).Pairwise λa b=>lU a b=true:=List.pairwise_mergeSort gu (λa b=>by simpa using iM a b) ss;have h2:(aP ss).Pairwise (· ≠ ·):=(bT ss).nodup_iff.mpr nd
 refine h1.imp₂ (λa b z1 z2=>?_) h2;rcases kE z2 with z | z
 . exact z
 . unfold lU at z1;simp[z] at z1
theorem yU{D:Pk}{f:Key × PV->PV}(hf: ∀ q:Str × Int,f (.inr q.1,.int q.2)= .str q.1):(bO D).map f=(D.map (·.1)).map PV.str:=by
 unfold bO;rw[List.map_map,List.map_map];exact List.map_congr_left λq _=>hf q
theorem vT{h:PH}{n:Nat}{D:Pk}(e:h[n]?=some (.dct (bO D)))(hl:D.length < 64):br [.ref n] h= .ok (.ref h.length) (h++[.lst ((aP (D.map (·.1))).map PV.str)]):=by
 have i0:itemsOf h (.ref n)=none:=by simp[itemsOf,de,e]
 show eT [.ref n] h=_;unfold eT;simp only[i0,e];rw[yU,P3.dW]
 . simp only[List.length_map,if_pos hl]
 . exact λq=>rfl
theorem zq{D:Pk}{x:Str}: ∀{D:Pk},x∈D.map (·.1)->bV (bO D) (.inr x)=some (.int (fP D x))
 | q::r,m=>by
  unfold fP bO;rw[List.map_cons];by_cases e:q.1=x
  . rw[if_pos e,e,rE]
  . rw[if_neg e,tm (by simpa using e)];rcases List.mem_cons.mp m with m | m
    . exact absurd m.symm e
    . exact zq (D:=D) m
noncomputable def tell(D:Pk)(ns:List Str):Pk:=(ns.filter λx=>decide (0 < fP D x)).map λx=>(x,fP D x)
theorem mC(D:Pk): ∀ ns:List Str,(ns.filterMap λx=>if 0 < fP D x then some (eO (x,fP D x)) else none)=(tell D ns).map eO
 | []=>rfl
 | x::r=>by
  unfold tell;by_cases z:0 < fP D x
  . rw[List.filterMap_cons_some (by rw[if_pos z]),List.filter_cons_of_pos (by simpa using z),List.map_cons,List.map_cons,mC D r];rfl
  . rw[List.filterMap_cons_none (by rw[if_neg z]),List.filter_cons_of_neg (by simpa using z),mC D r];rfl
theorem nu(D:Pk)(ns:List Str):(tell D ns).map (·.1)=ns.filter λx=>decide (0 < fP D x):=by
 unfold tell;rw[List.map_map];exact List.map_id _
theorem vO{L:List Str}{D ps:Pk}(h:t9 L D)(hp:fJ L ps)(e: ∀ x,fP D x=fP ps x):tell D (aP (D.map (·.1)))=ps:=by
 have hin:fJ L (tell D (aP (D.map (·.1)))):=by
  refine⟨?_,λq m=>?_⟩
  . rw[nu];exact(iS h.nd).sublist List.filter_sublist
  . unfold tell at m;obtain⟨x,mx,rfl⟩:=List.mem_map.mp m;obtain⟨m1,m2⟩:=List.mem_filter.mp mx;obtain⟨q,mq,rfl⟩:=List.mem_map.mp ((bT _).mem_iff.mp m1);have:=h.Ba q.1;have m3:0 < fP D q.1:=by simpa using m2
    exact⟨(h.mem q mq).1,by show 1<=fP D q.1;omega,by show fP D q.1<=999;omega⟩
 refine Ir hin hp λx=>?_;rw[<- e];by_cases hx:x∈(tell D (aP (D.map (·.1)))).map (·.1)
 . obtain⟨q,m,rfl⟩:=List.mem_map.mp hx;rw[k7 hin.nd q m];unfold tell at m;obtain⟨y,_,rfl⟩:=List.mem_map.mp m;rfl
 . rw[jw hx];rw[nu] at hx;have:=h.Ba x;by_cases hy:x∈D.map (·.1)
   . have: ¬ 0 < fP D x:=λz=>hx (List.mem_filter.mpr ⟨(bT _).mem_iff.mpr hy,by simpa using z⟩);omega
   . rw[jw hy]
theorem fC{rs:List Rw}: ∀(n:Nat)(s:aR),(aW rs n s).held=s.held
 | 0,s=>by unfold aW;split<;>rfl
 | n+1,s=>by
  unfold aW;split
  . rfl
  . split
    . rfl
    . rw[fC n,fW]
section
variable{pg:Tb}(T:cP pg)
include T
theorem pZ(k:Nat)(h G:PH){L:List Str}(hL:L.length<=20){rs:List Rw}{s t:aR}{n':Nat}{D':Pk}(p':PV)(u5 u6:Option PV)(e:(h++G)[n']?=some (.dct (bO D')))(hD:t9 L D')(hp: ∀ x,fP D' x=fP t.ps x)(ht:cG L rs t)(hh:t.held=s.held) :
  fin h ((az (aA (aa (ab 3) (aa (eB bC (aa (oZ 1 (mK (eB br (aa (ab 2) ae))) (gN 7) (aq (ag wk (ag ar (ab 2) (ab 7)) (eC (.int 0)))) (aA (aa (ab 7) (aa (ag ar (ab 2) (ab 7)) ae)))) ae)) (aa (ag ar (ab 1) (eC (.int 2))) ae))))) (run pg k) [some (au rs),some (ao s),some (.ref n'),some (.int t.row),some p',u5,u6] (h++G))= .ok (ao t) h:=by
 have dl:=hD.len;have so:=vT e (show D'.length < 64 by omega);have e':(h++(G++[.lst ((aP (D'.map (·.1))).map PV.str)]))[n']?=some (.dct (bO D')):=by rw[<- List.append_assoc,aU (bD e)];exact e
 have fi:hW.fH ⟨some (h.length+G.length),(aP (D'.map (·.1))).map PV.str⟩ (h++(G++[.lst ((aP (D'.map (·.1))).map PV.str)]))=true:=by
  unfold hW.fH;have:(h++(G++[PO.lst ((aP (D'.map (·.1))).map PV.str)]))[h.length+G.length]?=some (.lst ((aP (D'.map (·.1))).map PV.str)):=by rw[aJ];exact aY
  simp only[this,true_or,decide_true]
 have lc:jK ⟨some (h.length+G.length),(aP (D'.map (·.1))).map PV.str⟩ (bU 1 (gN 7) (aq (ag wk (ag ar (ab 2) (ab 7)) (eC (.int 0)))) (aA (aa (ab 7) (aa (ag ar (ab 2) (ab 7)) ae))) (run pg k) [some (au rs),some (ao s),some (.ref n'),some (.int t.row),some p',u5,u6]) ((aP (D'.map (·.1))).map PV.str) [] (h++(G++[.lst ((aP (D'.map (·.1))).map PV.str)]))= .ok (t.ps.map eO) (h++(G++[.lst ((aP (D'.map (·.1))).map PV.str)])):=by
  refine(fY (f:=λx:Str=>if 0 < fP D' x then some (eO (x,fP D' x)) else none) (g:=PV.str) fi (aP (D'.map (·.1))) [] (λx m=>?_) (by rw[(bT _).length_eq];simp;omega)).trans (by rw[mC,vO hD ht.pk hp,List.nil_append])
  have hv:=zq (D:=D') ((bT _).mem_iff.mp m);simp? [e',hv,eO];split<;>rfl
 have i2: ∀ g,ar (ao s) (.int 2) g= .ok (cH t.held) g:=λg=>by rw[hh];rfl
 simp? [so,lc,i2];exact bP (v:=ao t) (fk t)
theorem jl(k:Nat)(h:PH){L:List Str}(hL:L.length<=20){rs:List Rw}(hr: ∀ r∈rs,cO L rs.length r){s:aR}(hs:cG L rs s):run pg (k+10) "_law_rested" [au rs,ao s] h= .ok (ao (aW rs 200 s)) h:=by
 have hz:(s.ps.map eO).length < 16777216:=by rw[List.length_map];have:=hs.pk.len;omega
 have dp:eR [lg s.ps] h= .ok (.ref h.length) (h++[.dct (bO s.ps)]):=by unfold lg;rw[ur,kg,qY hz,kb hs.pk.nd]
 have hD:t9 L s.ps:=⟨hs.pk.nd,λq m=>⟨(hs.pk.mem q m).1,by have:=(hs.pk.mem q m).2.1;omega,(hs.pk.mem q m).2.2⟩⟩
 have i0: ∀ g,ar (ao s) (.int 0) g= .ok (.int s.row) g:=λg=>rfl;have i1: ∀ g,ar (ao s) (.int 1) g= .ok (lg s.ps) g:=λg=>rfl;have i2: ∀ g,ar (ao s) (.int 2) g= .ok (cH s.held) g:=λg=>rfl;rw[run_eq T.pe rfl];have hd: ∀(rest:MS)(v:PV)(h1:PH),run pg (k+9) "_law_own" [au rs,.int s.row,.ref h.length,cH s.held] (h++[.dct (bO s.ps)])= .ok v h1->(ai (ak (eB eR (aa (ag ar (ab 1) (eC (.int 1))) ae)) (gN 2))
  (ai (ak (ag ar (ab 1) (eC (.int 0))) (gN 3))
  (ai (ak (eC (.int 0)) (gN 4))
  (ai (ak (ah "_law_own" (aa (ab 0) (aa (ab 3) (aa (ab 2) (aa (ag ar (ab 1) (eC (.int 2))) ae))))) (gN 5)) rest)))) (run pg (k+9)) [some (au rs),some (ao s),none,none,none,none,none] h=rest (run pg (k+9)) [some (au rs),some (ao s),some (.ref h.length),some (.int s.row),some (.int 0),some v,none] h1:=λrest v h1 q=>by
  simp? [i0,i1,i2,dp,q]
 cases r1:bf rs s with
 | true =>
  have on:=gF T (k+8) (h++[.dct (bO s.ps)]) h.length hs.le r1
  have fr:aW rs 200 s=s:=by rw[aW,if_pos r1]
  rw[fr]
  refine(congrArg (fin h) ((hd _ _ _ on).trans (n6 ?_))).trans (pZ T (k+9) h [.dct (bO s.ps)] hL (.int 0) (some .non) none aY hD (λ_=>rfl) hs rfl)
  rw[yY]
  refine jM (f:=99999) ?_
  simp? [List.map_nil]
 | false =>
  obtain⟨r,e,ho⟩:=jH r1
  have hm:=hr r (List.mem_of_getElem? e)
  obtain⟨D1,q1,q2,q3,q4⟩:=gW T k (h++[.dct (bO s.ps)]) h.length e ho hm aY hD (λ_=>rfl) hs.pk.nd (by have:=hD.len;omega)
  rw[eY,List.set_cons_zero] at q4
  have fr:aW rs 200 s=aW rs 199 (behind s r):=by rw[aW,if_neg (by simp[r1]),e]
  rw[fr]
  obtain⟨n',D',G,p',u6',w1,w2,w3,w4⟩:=xI T k h hL hr s 199 0 (behind s r) D1 [] s.row none 100000 (by decide) (by decide) (eX hs hm e) (fW s r) q1 q2
  have hb:=jP hr 199 _ (eX hs hm e)
  refine(congrArg (fin h) ((hd _ _ _ q4).trans (n6 ?_))).trans (pZ T (k+9) h G hL (s:=s) (.int p') (some .non) u6' w1 w2 w3 hb (by rw[fC,fW]))
  rw[show((0:Nat):Int)=(0:Int) from rfl] at w4
  rw[yY]
  exact w4
end
theorem vo{h:PH}{n:Nat}{ss:List Str}(e:h[n]?=some (.lst (ss.map PV.str)))(hl:ss.length < 64):br [.ref n] h= .ok (.ref h.length) (h++[.lst ((aP ss).map PV.str)]):=by
 have i0:itemsOf h (.ref n)=some (ss.map PV.str):=by simp[itemsOf,de,e]
 show eT [.ref n] h=_;unfold eT;simp only[i0,P3.dW,if_pos hl]
section
variable{pg:Tb}(T:cP pg)
include T
theorem iH.hand{L s2:List Str}{hs:List (Str × List Rw)}{p:PV}(P:iH L s2 hs p){i:Nat}{h:Str × List Rw}(e:hs[i]?=some h):fZ p (i:Int) h.2/\ ∀ r∈h.2,cO L h.2.length r:=by
 obtain⟨bs,s3,s4,rfl⟩:=P.at_;exact⟨⟨_,_,_,_,_,_,rfl,P3.dJ rfl (by rw[List.getElem?_map,e];rfl)⟩,(P.rows h (List.mem_of_getElem? e)).2⟩
end
section
variable{pg:Tb}(T:cP pg)
include T
theorem Ep(j:Nat){ns:List Int}(hn:ns.length<=63){b:Nat}{s1:List Str}{B:PH}(h1:B[b]?=some (.lst (s1.map PV.str)))(o:Option Int)(e1 e2 e3 e4 e5 e6:Option PV) :
  ∀(xs:List Str)(ys:List PV)(k:Int),0<=k->k+2*xs.length<=1000000->ys.length+xs.length<=1000-> ∃(ps:Pk)(k':Int),(ps.map (·.1)).Sublist xs/\(∀ q∈ps,1<=q.2/\q.2<=999)/\k<=k'/\k'<=k+2*xs.length /\
   P3.jK ⟨some (b+1+1),s1.map PV.str⟩ (bU 1 (gN 7) (aq (ag cm (ah "_law_pick" (aa (ab 0) (aa (eC (.int 3)) ae))) (eC (.int 0)))) (aA (aa (ab 7) (aa (ag aE (eC (.int 1)) (ah "_law_pick" (aa (ab 0) (aa (eC (.int 999)) ae)))) ae))) (run pg (j+2)) [some (.ref 1),e1,e2,e3,e4,e5,e6]) (xs.map PV.str) ys (aI ns::aF k o::B)= .ok (ys++ps.map eO) (aI ns::aF k' o::B):=by
 have fin1: ∀(k:Int),hW.fH ⟨some (b+1+1),s1.map PV.str⟩ (aI ns::aF k o::B)=true:=λk=>iN (show B[b]?=_ from h1);intro xs
 induction xs with
 | nil=>intro ys k k0 k9 _;exact⟨[],k,.slnil,λq m=>(nomatch m),by omega,by simp,by rw[List.map_nil,P3.jK,if_pos (fin1 _)];simp⟩
 | cons x xs ih =>
  intro ys k k0 k9 hl
  rw[List.length_cons] at k9 hl
  obtain⟨a,a0,a1,ea⟩:=aX T j B hn o (k:=k) 3 k0 (by omega) (by decide) (by decide)
  have hz:ys.length < sizeLine:=Nat.lt_of_lt_of_le (show ys.length < 1001 by omega) (by decide)
  rw[List.map_cons,P3.jK,if_pos ⟨fin1 _,hz⟩]
  by_cases za:a=0
  . obtain⟨c,c0,c1,ec⟩:=aX T j B hn o (k:=k+1) 999 (by omega) (by omega) (by decide) (by decide);obtain⟨ps,k2,q1,q2,q3,q4,q5⟩:=ih (ys++[eO (x,1+c)]) (k+1+1) (by omega) (by omega) (by simp;omega);refine⟨(x,1+c)::ps,k2,by rw[List.map_cons];exact q1.cons_cons x,λq m=>?_,by omega,by rw[List.length_cons];omega,?_⟩
    . rcases List.mem_cons.mp m with rfl | m
      . exact⟨by show 1<=1+c;omega,by show 1+c<=999;omega⟩
      . exact q2 q m
    have st:bU 1 (gN 7) (aq (ag cm (ah "_law_pick" (aa (ab 0) (aa (eC (.int 3)) ae))) (eC (.int 0)))) (aA (aa (ab 7) (aa (ag aE (eC (.int 1)) (ah "_law_pick" (aa (ab 0) (aa (eC (.int 999)) ae)))) ae))) (run pg (j+2)) [some (.ref 1),e1,e2,e3,e4,e5,e6] (.str x) (aI ns::aF k o::B)= .ok (some (eO (x,1+c))) (aI ns::aF (k+1+1) o::B):=by
     subst za;simp? [ea,ec,eO]
    rw[st,cL];simpa using q5
  . obtain⟨ps,k2,q1,q2,q3,q4,q5⟩:=ih ys (k+1) (by omega) (by omega) (by omega);refine⟨ps,k2,q1.cons x,q2,by omega,by rw[List.length_cons];omega,?_⟩;have st:bU 1 (gN 7) (aq (ag cm (ah "_law_pick" (aa (ab 0) (aa (eC (.int 3)) ae))) (eC (.int 0)))) (aA (aa (ab 7) (aa (ag aE (eC (.int 1)) (ah "_law_pick" (aa (ab 0) (aa (eC (.int 999)) ae)))) ae))) (run pg (j+2)) [some (.ref 1),e1,e2,e3,e4,e5,e6] (.str x) (aI ns::aF k o::B)= .ok none (aI ns::aF (k+1) o::B):=by
     simp? [ea,za]
    rw[st,cL];exact q5
theorem CN(j:Nat){ns:List Int}(hn:ns.length<=63){xs0:List PV}{B:PH}(o:Option Int)(e1 e2 e3 e4 e5 e6:Option PV) :
  ∀(xs:List Str)(ys:List PV)(k:Int),0<=k->k+xs.length<=1000000->ys.length+xs.length<=1000-> ∃(ls:List Str)(k':Int),ls.Sublist xs/\k<=k'/\k'<=k+xs.length /\
   P3.jK ⟨none,xs0⟩ (bU 1 (gN 7) (aq (ag cm (ah "_law_pick" (aa (ab 0) (aa (eC (.int 2)) ae))) (eC (.int 0)))) (ab 7) (run pg (j+2)) [some (.ref 1),e1,e2,e3,e4,e5,e6]) (xs.map PV.str) ys (aI ns::aF k o::B)= .ok (ys++ls.map PV.str) (aI ns::aF k' o::B):=by
 intro xs
 induction xs with
 | nil=>intro ys k k0 k9 _;exact⟨[],k,.slnil,by omega,by simp,by rw[List.map_nil,P3.jK,if_pos eW];simp⟩
 | cons x xs ih =>
  intro ys k k0 k9 hl
  rw[List.length_cons] at k9 hl
  obtain⟨a,a0,a1,ea⟩:=aX T j B hn o (k:=k) 2 k0 (by omega) (by decide) (by decide)
  have hz:ys.length < sizeLine:=Nat.lt_of_lt_of_le (show ys.length < 1001 by omega) (by decide)
  rw[List.map_cons,P3.jK,if_pos ⟨eW,hz⟩]
  by_cases za:a=0
  . obtain⟨ls,k2,q1,q2,q3,q4⟩:=ih (ys++[.str x]) (k+1) (by omega) (by omega) (by simp;omega);refine⟨x::ls,k2,q1.cons_cons x,by omega,by rw[List.length_cons];omega,?_⟩;have st:bU 1 (gN 7) (aq (ag cm (ah "_law_pick" (aa (ab 0) (aa (eC (.int 2)) ae))) (eC (.int 0)))) (ab 7) (run pg (j+2)) [some (.ref 1),e1,e2,e3,e4,e5,e6] (.str x) (aI ns::aF k o::B)= .ok (some (.str x)) (aI ns::aF (k+1) o::B):=by
     subst za;simp? [ea]
    rw[st,cL];simpa using q4
  . obtain⟨ls,k2,q1,q2,q3,q4⟩:=ih ys (k+1) (by omega) (by omega) (by omega);refine⟨ls,k2,q1.cons x,by omega,by rw[List.length_cons];omega,?_⟩;have st:bU 1 (gN 7) (aq (ag cm (ah "_law_pick" (aa (ab 0) (aa (eC (.int 2)) ae))) (eC (.int 0)))) (ab 7) (run pg (j+2)) [some (.ref 1),e1,e2,e3,e4,e5,e6] (.str x) (aI ns::aF k o::B)= .ok none (aI ns::aF (k+1) o::B):=by
     simp? [ea,za]
    rw[st,cL];exact q4
theorem Dv(j:Nat){ns:List Int}(hn:ns.length<=63){L s2:List Str}{hs:List (Str × List Rw)}{p:PV}(P:iH L s2 hs p){i:Nat}{hd:Str × List Rw}(ei:hs[i]?=some hd)(k:Int)(o:Option Int)(g:PH)(k0:0<=k)(k9:k+100<=1000000) :
  ∃(s:aR)(ls:List Str)(k':Int),cG L hd.2 s/\ls.Sublist s2/\s.held=aP ls/\k<=k'/\k'<=k+100/\run pg (j+3) "_law_seat" [.ref 1,p,.int i] (aI ns::aF k o::g)= .ok (ao s) (aI ns::aF k' o::g):=by
 have yr:(aP aQ).length=5:=(bT _).length_eq;have l2:=P.FP;have so:=vo (h:=aI ns::aF k o::(g++[PO.lst (aQ.map PV.str)])) (n:=g.length+1+1) (ss:=aQ) (show(g++[PO.lst (aQ.map PV.str)])[g.length]?=_ from aY) (by decide);have hB:(g++[PO.lst (aQ.map PV.str),.lst ((aP aQ).map PV.str)])[g.length+1]?=some (.lst ((aP aQ).map PV.str)):=by rw[aJ];rfl
 obtain⟨bs,s3,s4,rfl⟩:=P.at_;obtain⟨ps,k1,a1,a2,a3,a4,a5⟩:=Ep T j hn hB o (some (.tup [.tup bs,.tup (s2.map PV.str),.tup s3,.tup s4,.tup (hs.map dI)])) (some (.int i)) (some (au hd.2)) (some (.ref (g.length+1+1+1))) none none (aP aQ) [] k k0 (by omega) (by simp;omega);obtain⟨ls,k2,b1,b2,b3,b4⟩:=CN T j hn (xs0:=s2.map PV.str) (B:=g++[PO.lst (aQ.map PV.str),.lst ((aP aQ).map PV.str),.lst (ps.map eO)]) o (some (.tup [.tup bs,.tup (s2.map PV.str),.tup s3,.tup s4,.tup (hs.map dI)])) (some (.int i)) (some (au hd.2)) (some (.ref (g.length+1+1+1))) (some (lg ps)) none s2 [] k1 (by omega) (by omega) (by simp;omega);have ll:ls.length<=10:=Nat.le_trans b1.length_le l2;have sh:=vo (h:=aI ns::aF k2 o::(g++[PO.lst (aQ.map PV.str),.lst ((aP aQ).map PV.str),.lst (ps.map eO),.lst (ls.map PV.str)])) (n:=g.length+3+1+1) (ss:=ls) (show(g++[PO.lst (aQ.map PV.str),.lst ((aP aQ).map PV.str),.lst (ps.map eO),.lst (ls.map PV.str)])[g.length+3]?=_ from by rw[aJ];rfl) (by omega);have rl:hd.2.length<=30:=(P.rows hd (List.mem_of_getElem? ei)).1;obtain⟨c,c0,c1,ec⟩:=aX T j (g++[PO.lst (aQ.map PV.str),.lst ((aP aQ).map PV.str),.lst (ps.map eO),.lst (ls.map PV.str),.lst ((aP ls).map PV.str)]) hn o (k:=k2) (hd.2.length+1) (by omega) (by omega) (by omega) (by omega);have pin:fJ L ps:=by
  refine⟨(iS (by decide +kernel)).sublist a1,λq m=>⟨P.Pt _ ((bT _).mem_iff.mp (a1.subset (List.mem_map.mpr ⟨q,m,rfl⟩))),a2 q m⟩⟩
 refine⟨⟨c.toNat,ps,aP ls⟩,ls,k2+1,⟨pin,by show c.toNat<=hd.2.length;omega⟩,b1,rfl,by omega,by omega,?_⟩;have at4:=nF (h:=aI ns::aF k o::g) (xs:=hs.map dI) (i:=i) (v:= .tup [.str hd.1,au hd.2]) (P3.dJ rfl (by rw[List.getElem?_map,ei];rfl));have rlen: ∀ h,bN [au hd.2] h= .ok (.int hd.2.length) h:=λh=>by unfold au;rw[len_T,List.length_map]
 rw[run_eq T.sZ rfl];rw[List.nil_append] at a5 b4;have pv:lg ps= .tup (ps.map eO):=rfl;rw[pv] at b4;have sn:aQ.map PV.str=[.str "a",.str "ab",.str "boxes",.str "b",.str "lets"]:=rfl;rw[sn] at so a5 b4 sh ec;simp? [eI,iw,at4,so,a5,b4,sh,ec,rlen];have cv:PV.int c= .int (c.toNat:Nat):=by congr 1;omega
 rw[cv];exact c7 (v:=ao ⟨c.toNat,ps,aP ls⟩) (fk _)
end
theorem gG{rs:List Rw}: ∀(n:Nat)(s:aR),bf rs (aW rs n s)=true
 | 0,s=>by
  unfold aW;split
  . assumption
  . unfold bf;rw[List.getElem?_eq_none (Nat.le_refl _)]
 | n+1,s=>by
  unfold aW;split
  . assumption
  . split
    . rename_i e;unfold bf;rw[e]
    . exact gG n _
theorem yq (a:Str) (h:PH):jI (.str a) (.tup [.str "put",.str "send",.str "say"]) h= .ok (.bl (decide (a∈(["put", "send", "say"]:List Str)))) h:=uD (ss:=["put", "send", "say"])
theorem Oj (a:Str) (h:PH):jI (.str a) (.tup [.str "get",.str "fetch",.str "clock",.str "lot",.str "hear"]) h= .ok (.bl (decide (a∈(["get", "fetch", "clock", "lot", "hear"]:List Str)))) h:=uD (ss:=["get", "fetch", "clock", "lot", "hear"])
theorem in4 (a:Str) (h:PH):jI (.str a) (.tup [.str "get",.str "fetch",.str "clock",.str "hear"]) h= .ok (.bl (decide (a∈(["get", "fetch", "clock", "hear"]:List Str)))) h:=uD (ss:=["get", "fetch", "clock", "hear"])
theorem wy {h:PH} {L:List Str} {ps:Pk} (hL:L.length<=20) (hp:fJ L ps):eR [lg ps] h= .ok (.ref h.length) (h++[.dct (bO ps)]):=by
 have hz:(ps.map eO).length < 16777216:=by rw [List.length_map];have:=hp.len;omega
 unfold lg;rw [ur,kg,qY hz,kb hp.nd]
theorem fJ.Ng {L:List Str} {ps:Pk} (hp:fJ L ps):t9 L ps:=⟨hp.nd,λq m=>⟨(hp.mem q m).1,by have:=(hp.mem q m).2.1;omega,(hp.mem q m).2.2⟩⟩
theorem xk (s:aR) {r:Rw} (ho:own s.held r=false) :
  (∃ (e:Sm) (t:Str),r.w∈(["put", "send", "say"]:List Str)∧r.sum=some e∧(∀ g,ar (cZ r) (.int 1) g= .ok (.str t) g)∧(∀ g,ar (cZ r) (.int 2) g= .ok (ee e) g)∧bE s r= .tup [.str r.w,.str t,.int (e.val (fP s.ps))]) ∨
  (∃ x n,r= .lot x n)∨(∃ x,r= .clock x) ∨
  (∃ (n:Int) (t:Str),(¬ r.w∈(["put", "send", "say"]:List Str)∧ ¬ r.w= "lot" /\ ¬ r.w= "clock")∧(∀ g,bN [cZ r] g= .ok (.int n) g)∧(∀ g,ar (cZ r) (.int (n - 1)) g= .ok (.str t) g)∧bE s r= .tup [.str r.w,.str t,.non]):=by
 have k3:(Str.ofString "put" ∈(["put", "send", "say"]:List Str)∧Str.ofString "send" ∈(["put", "send", "say"]:List Str))∧Str.ofString "say" ∈(["put", "send", "say"]:List Str):=by decide +kernel
 cases r with
 | let_ _ _=>exact nomatch ho
 | leap _ _=>exact nomatch ho
 | put t e=>exact .inl ⟨e,t,k3.1.1,rfl,λ_=>vq,λ_=>vw,rfl⟩
 | send t e=>exact .inl ⟨e,t,k3.1.2,rfl,λ_=>vq,λ_=>vw,rfl⟩
 | say t e=>exact .inl ⟨e,t,k3.2,rfl,λ_=>vq,λ_=>vw,rfl⟩
 | lot x n=>exact .inr (.inl ⟨x,n,rfl⟩)
 | clock x=>exact .inr (.inr (.inl ⟨x,rfl⟩))
 | take l=>exact .inr (.inr (.inr ⟨2,l,by simp only[Rw.w];decide +kernel,λ_=>rfl,λ_=>vq,rfl⟩))
 | free l=>exact .inr (.inr (.inr ⟨2,l,by simp only[Rw.w];decide +kernel,λ_=>rfl,λ_=>vq,rfl⟩))
 | get _ t=>exact .inr (.inr (.inr ⟨3,t,by simp only[Rw.w];decide +kernel,λ_=>rfl,λ_=>vw,rfl⟩))
 | fetch _ t=>exact .inr (.inr (.inr ⟨3,t,by simp only[Rw.w];decide +kernel,λ_=>rfl,λ_=>vw,rfl⟩))
 | hear _ t=>exact .inr (.inr (.inr ⟨3,t,by simp only[Rw.w];decide +kernel,λ_=>rfl,λ_=>vw,rfl⟩))
section
variable{pg:Tb}(T:cP pg)
include T
theorem gQ(k:Nat)(h:PH){L:List Str}(hL:L.length<=20){rs:List Rw}(hr: ∀ r∈rs,cO L rs.length r){s:aR}(hs:cG L rs s)(h1:bf rs s=true):run pg (k+10) "_law_touch" [au rs,ao s] h= .ok (b9 rs s) h:=by
 have i0: ∀ g,ar (ao s) (.int 0) g= .ok (.int s.row) g:=λg=>rfl;have i1: ∀ g,ar (ao s) (.int 1) g= .ok (lg s.ps) g:=λg=>rfl;have rl: ∀ g,bN [au rs] g= .ok (.int rs.length) g:=λg=>by unfold au;rw[len_T,List.length_map]
 rw[run_eq T.qi rfl];cases e:rs[s.row]? with
 | none =>
  have:s.row=rs.length:=by have:=List.getElem?_eq_none_iff.mp e;have:=hs.le;omega
  have t1:b9 rs s= .non:=by unfold b9;rw[e]
  simp? [bI,cF,t1,this,i0,rl]
 | some r =>
  have hlt:s.row < rs.length:=(List.getElem?_eq_some_iff.mp e).1
  have ne: ¬ (s.row:Int)=(rs.length:Int):=by omega
  have ix: ∀ g,ar (au rs) (.int s.row) g= .ok (cZ r) g:=λg=>nF (eJ e)
  have hrr:=hr r (List.mem_of_getElem? e)
  have t1:b9 rs s=bE s r:=by unfold b9;rw[e]
  have ho:own s.held r=false:=by unfold bf at h1;rw[e] at h1;simpa using h1
  have pd:=wy (h:=h) hL hs.pk
  have w: ∀ e0:Sm,mN e0->run pg (k+9) "_law_worth" [ee e0,.ref h.length] (h++[.dct (bO s.ps)])= .ok (.int (e0.val (fP s.ps))) (h++[.dct (bO s.ps)]):=λe0 he=>rY T hs.pk.Ng.Ba e0 (k+8) _ aY he.1 (by have:=he.2;omega)
  rw[t1]
  have r_0:=λg=>rw_0 r g
  rcases xk s ho with⟨e0,t,n3,he,x1,x2,et⟩ | ⟨x,n,rfl⟩ | ⟨x,rfl⟩ | ⟨n,t,⟨n3,nl,nc⟩,ln,la,et⟩
  . rw[et];simp? [bI,cF,i0,i1,rl,ne,ix,r_0,x1,x2,yq,n3,pd,w e0 (hrr.sum he)];exact bP rfl
  . simp? [bI,cF,i0,rl,ne,ix,cZ,Rw.w,Rw.ps,yq,List.mem_cons,List.not_mem_nil,or_false,bE]
  . simp? [bI,cF,i0,rl,ne,ix,cZ,Rw.w,Rw.ps,yq,List.mem_cons,List.not_mem_nil,or_false,bE]
  . rw[et];simp? [bI,cF,i0,rl,ne,ix,r_0,yq,n3,nl,nc,ln,la]
end
theorem sx{ss:List Str}(h:ss.Pairwise hI):aP ss=ss:=List.mergeSort_of_pairwise (h.imp λ{a b} z=>by unfold lU;simp[iP z])
theorem qr{ss:List Str}(h:ss.Pairwise hI):ss.Nodup:=h.imp λ{a b} z e=>by subst e;exact gY _ z
theorem qE(l:Str): ∀{ss:List Str},ss.Nodup->xX ss l=ss.filter λz=> !decide (z=l)
 | [],_=>rfl
 | q::r,nd=>by
  rw[List.nodup_cons] at nd;unfold xX;by_cases z:q=l
  . subst z;rw[List.idxOf_cons_self,List.filter_cons_of_neg (by simp)];show r=_;exact(List.filter_eq_self.mpr λa m=>by simp;rintro rfl;exact nd.1 m).symm
  . have:(q::r).idxOf l=r.idxOf l+1:=by rw[List.idxOf_cons,show(q == l)=false by simpa using z];rfl
    rw[this,List.filter_cons_of_pos (by simpa using z),List.eraseIdx_cons_succ];congr 1;exact qE l nd.2
noncomputable def AL:MS:=ai (ak (eB bC (aa (oZ 1 (mK (eB br (aa (ab 4) ae))) (gN 7) (aq (ag wk (ag ar (ab 4) (ab 7)) (eC (.int 0)))) (aA (aa (ab 7) (aa (ag ar (ab 4) (ab 7)) ae)))) ae)) (gN 6))
  (az (ah "_law_rested" (aa (ab 0) (aa (aA (aa (ag aE (ag ar (ab 1) (eC (.int 0))) (eC (.int 1))) (aa (ab 6) (aa (eB bC (aa (eB br (aa (ab 5) ae)) ae)) ae)))) ae))))
section
variable{pg:Tb}(T:cP pg)
include T
theorem sP(k:Nat)(h:PH){L:List Str}(hL:L.length<=20){rs:List Rw}(hr: ∀ r∈rs,cO L rs.length r){s:aR}(hlt:s.row < rs.length){D ps:Pk}{hl:List Str}(v r:PV)(u6:Option PV)(hD:t9 L D)(hp:fJ L ps)(hf: ∀ x,fP D x=fP ps x)(hz:hl.length < 64) :
  fin h (AL (run pg (k+10)) [some (au rs),some (ao s),some v,some r,some (.ref h.length),some (.ref (h.length+1)),u6] (h++[.dct (bO D),.lst (hl.map PV.str)]))= .ok (ao (aW rs 200 ⟨s.row+1,ps,aP hl⟩)) h:=by
 have dl:=hD.len;have so:=vT (h:=h++[.dct (bO D),.lst (hl.map PV.str)]) (n:=h.length) aY (show D.length < 64 by omega);generalize hN:aP (D.map (·.1))=N at so
 have fi:hW.fH ⟨some (h.length+(0+1+1)),N.map PV.str⟩ (h++[.dct (bO D),.lst (hl.map PV.str),.lst (N.map PV.str)])=true:=iN (by rw[aJ];rfl);have e':(h++[PO.dct (bO D),.lst (hl.map PV.str),.lst (N.map PV.str)])[h.length]?=some (.dct (bO D)):=aY;have lc:P3.jK ⟨some (h.length+(0+1+1)),N.map PV.str⟩ (bU 1 (gN 7) (aq (ag wk (ag ar (ab 4) (ab 7)) (eC (.int 0)))) (aA (aa (ab 7) (aa (ag ar (ab 4) (ab 7)) ae))) (run pg (k+10)) [some (au rs),some (ao s),some v,some r,some (.ref h.length),some (.ref (h.length+1)),u6]) (N.map PV.str) [] (h++[.dct (bO D),.lst (hl.map PV.str),.lst (N.map PV.str)])= .ok (ps.map eO) (h++[.dct (bO D),.lst (hl.map PV.str),.lst (N.map PV.str)]):=by
  refine(fY (f:=λx:Str=>if 0 < fP D x then some (eO (x,fP D x)) else none) (g:=PV.str) fi N [] (λx m=>?_) (by rw[<- hN,(bT _).length_eq];simp;omega)).trans (by rw[mC,<- hN,vO hD hp hf,List.nil_append]);have hv:=zq (D:=D) (x:=x) (by rw[<- hN] at m;exact(bT _).mem_iff.mp m);simp? [e',hv,eO];split<;>rfl
 have sh:=vo (h:=h++[PO.dct (bO D),.lst (hl.map PV.str),.lst (N.map PV.str),.lst (ps.map eO)]) (n:=h.length+1) (ss:=hl) (by rw[aJ];rfl) hz;have le:=jl T k (h++[PO.dct (bO D),.lst (hl.map PV.str),.lst (N.map PV.str),.lst (ps.map eO),.lst ((aP hl).map PV.str)]) hL hr (s:=⟨s.row+1,ps,aP hl⟩) ⟨hp,hlt⟩;have i0: ∀ g,ar (ao s) (.int 0) g= .ok (.int s.row) g:=λg=>rfl;have le':run pg (k+10) "_law_rested" [au rs,.tup [.int ((s.row:Int)+1),.tup (ps.map eO),.tup ((aP hl).map PV.str)]] (h++[PO.dct (bO D),.lst (hl.map PV.str),.lst (N.map PV.str),.lst (ps.map eO),.lst ((aP hl).map PV.str)])=_:=le;simp? [AL,so,lc,sh,i0,le'];exact bP (fk _)
theorem jc(k:Nat)(h:PH){L:List Str}(hL:L.length<=20){rs:List Rw}(hr: ∀ r∈rs,cO L rs.length r){s:aR}(hs:cG L rs s)(hst:s.held.Pairwise hI)(hh:s.held.length<=60){r:Rw}(e:rs[s.row]?=some r)(ho:own s.held r=false){v:PV}(hv: ∀ x,r.a9=some x-> ∃ i:Int,v= .int i/\0<=i/\i<=999) :
  run pg (k+11) "_law_behind" [au rs,ao s,v] h= .ok (ao (aW rs 200 (after s v r))) h:=by
 have i0: ∀ g,ar (ao s) (.int 0) g= .ok (.int s.row) g:=λg=>rfl;have i1: ∀ g,ar (ao s) (.int 1) g= .ok (lg s.ps) g:=λg=>rfl;have i2: ∀ g,ar (ao s) (.int 2) g= .ok (.tup (s.held.map PV.str)) g:=λg=>rfl;have hlt:s.row < rs.length:=(List.getElem?_eq_some_iff.mp e).1;have ix: ∀ g,ar (au rs) (.int s.row) g= .ok (cZ r) g:=λg=>nF (eJ e);have hrr:=hr r (List.mem_of_getElem? e);have pd:=wy (h:=h) hL hs.pk;have pn:(bO s.ps).length < 16777216:=by unfold bO;rw[List.length_map];have:=hs.pk.len;omega
 have hn:(s.held.map PV.str).length < 16777216:=by rw[List.length_map];omega
 rw[run_eq T.o6 rfl];have hd: ∀(D:Pk)(hl:List Str),(∀ rest:MS,(ai (ak (ag ar (ab 0) (ag ar (ab 1) (eC (.int 0)))) (gN 3))
  (ai (ak (eB eR (aa (ag ar (ab 1) (eC (.int 1))) ae)) (gN 4))
  (ai (ak (eB sv (aa (ag ar (ab 1) (eC (.int 2))) ae)) (gN 5))
  (ai (bt (aq (ag jI (ag ar (ab 3) (eC (.int 0))) (aA (aa (eC (.str "get")) (aa (eC (.str "fetch")) (aa (eC (.str "clock")) (aa (eC (.str "lot")) (aa (eC (.str "hear")) ae)))))))) (jR i7 (ab 4) (ag ar (ab 3) (eC (.int 1))) (ab 2)) bA)
  (ai (bt (aq (ag cm (ag ar (ab 3) (eC (.int 0))) (eC (.str "take")))) (fT (eM cV eG (ab 5) (aa (ag ar (ab 3) (eC (.int 1))) ae))) bA)
  (ai (bt (aq (ag cm (ag ar (ab 3) (eC (.int 0))) (eC (.str "free")))) (fT (eM iR eG (ab 5) (aa (ag ar (ab 3) (eC (.int 1))) ae))) bA)
  rest)))))) (run pg (k+10)) [some (au rs),some (ao s),some v,none,none,none,none] h=rest (run pg (k+10)) [some (au rs),some (ao s),some v,some (cZ r),some (.ref h.length),some (.ref (h.length+1)),none] (h++[.dct (bO D),.lst (hl.map PV.str)])) ->
   ∀ ps:Pk,t9 L D->fJ L ps->(∀ x,fP D x=fP ps x)->hl.length < 64->after s v r=⟨s.row+1,ps,aP hl⟩ ->
   fin h (cJ.body (run pg (k+10)) ([au rs,ao s,v].map some++List.replicate cJ.nl none) h)= .ok (ao (aW rs 200 (after s v r))) h:=λD hl q ps a1 a2 a3 a4 a5=>by
  rw[a5]
  exact(congrArg (fin h) (q AL)).trans (sP T k h hL hr hlt v (cZ r) none a1 a2 a3 a4)
 have sid:=sx hst;have r_0:=λg=>rw_0 r g;rcases rw_cls r with⟨x,hx⟩ | ⟨l,rfl⟩ | ⟨l,rfl⟩ | ⟨⟨n5,nt,nf⟩,af⟩
 . obtain⟨i,rfl,h0,h9⟩:=hv x hx;obtain⟨n5,nt,nf⟩:=Fw hx;have x1:=λg=>rw_pk hx g;refine hd (putD s.ps x i) s.held (λrest=>?_) _ (wz hs.pk.Ng (hrr.pk hx) h0 h9) (qR hs.pk (hrr.pk hx) h0 h9) (λy=>by rw[wD,Be hs.pk.nd]) (by omega) (by rw[sid,tQ hx];rfl);simp? [i0,i1,i2,ix,pd,r_0,x1,Oj,n5,nt,nf,nI pn,wj]
 . refine hd s.ps (s.held++[l]) (λrest=>?_) _ hs.pk.Ng hs.pk (λ_=>rfl) (by simp;omega) rfl;simp? [i0,i1,i2,ix,pd,cZ,Rw.w,Rw.ps,Oj,List.mem_cons,List.not_mem_nil,or_false,or_true,true_or,false_or,xb hn,List.map_append]
 . have hl:l∈s.held:=by simpa [own] using ho
   have rm:=Pj (h:=h++[PO.dct (bO s.ps),.lst (s.held.map PV.str)]) (n:=h.length+(0+1)) (by rw[aJ];rfl) hl;refine hd s.ps (xX s.held l) (λrest=>?_) _ hs.pk.Ng hs.pk (λ_=>rfl) ?_ ?_
   . simp? [i0,i1,i2,ix,pd,cZ,Rw.w,Rw.ps,Oj,List.mem_cons,List.not_mem_nil,or_false,or_true,true_or,false_or,rm]
   . rw[qE l (qr hst)];have:=List.length_filter_le (λz=> !decide (z=l)) s.held;omega
   . rw[qE l (qr hst),sx (hst.sublist List.filter_sublist)];rfl
 . refine hd s.ps s.held (λrest=>?_) _ hs.pk.Ng hs.pk (λ_=>rfl) (by omega) (by rw[sid,af]);simp? [i0,i1,i2,ix,pd,r_0,Oj,n5,nt,nf]
end
theorem sH{S:aR}{r:Rw}(ho:own S.held r=false): ∃ th vl,bE S r= .tup [.str r.w,th,vl]/\(vl= .non\/ ∃ i,vl= .int i)/\(∀ x n,r= .lot x n->vl= .int n):=by
 cases r with
 | let_ _ _=>exact nomatch ho
 | leap _ _=>exact nomatch ho
 | put b e=>exact⟨_,_,rfl,.inr ⟨_,rfl⟩,λ_ _ q=>nomatch q⟩
 | send b e=>exact⟨_,_,rfl,.inr ⟨_,rfl⟩,λ_ _ q=>nomatch q⟩
 | say b e=>exact ⟨_,_,rfl,.inr ⟨_,rfl⟩,λ_ _ q=>nomatch q⟩
 | lot x n=>exact ⟨_,_,rfl,.inr ⟨_,rfl⟩,λ_ _ q=>by cases q;rfl⟩
 | _=>exact ⟨_,_,rfl,.inl rfl,λ_ _ q=>nomatch q⟩
theorem ou {S:aR} {r:Rw} (ho:own S.held r=false):(∃ x n,r= .lot x n)∨(¬ r.w= "lot" ∧(r.w∈(["get", "fetch", "clock", "hear"]:List Str)↔r.a9.isSome=true)):=by
 cases r with
 | let_ _ _=>exact nomatch ho
 | leap _ _=>exact nomatch ho
 | lot x n=>exact .inl ⟨x,n,rfl⟩
 | _=>exact .inr (by simp only[Rw.w,Rw.a9,Option.isSome_some,Option.isSome_none];decide +kernel)
theorem DU{n w c:Int}(hn:2<=n/\n<=1000)(w0:0<=w)(w1:w < n)(c0:0<=c)(c1:c < 3): ∃ v:Int,0<=v/\v<=999/\v < n/\eP [PV.int 0,.int (n - 1),.int w] c=some (.int v):=by
 rcases(show c=0\/c=1\/c=2 by omega) with rfl | rfl | rfl
 . exact⟨0,by decide,by decide,by omega,DL⟩
 . exact⟨n - 1,by omega,by omega,by omega,Hb⟩
 . exact⟨w,by omega,by omega,by omega,Nu⟩
theorem Ku{w c:Int}(w0:0<=w)(w1:w < 1000)(c0:0<=c)(c1:c < 4): ∃ v:Int,0<=v/\v<=999/\eP [PV.int 0,.int 1,.int 999,.int w] c=some (.int v):=by
 rcases(show c=0\/c=1\/c=2\/c=3 by omega) with rfl | rfl | rfl | rfl
 . exact⟨0,by decide,by decide,DL⟩
 . exact⟨1,by decide,by decide,Hb⟩
 . exact⟨999,by decide,by decide,Nu⟩
 . exact⟨w,by omega,by omega,O6⟩
section
variable{pg:Tb}(T:cP pg)
include T
theorem qK(j:Nat){ns:List Int}(hn:ns.length<=63){L:List Str}{n:Nat}{S:aR}{r:Rw}(hr:cO L n r)(ho:own S.held r=false)(k:Int)(o:Option Int)(g:PH)(k0:0<=k)(k9:k+10<=1000000) :
  ∃(v:PV)(k':Int),(∀ x,r.a9=some x-> ∃ i:Int,v= .int i/\0<=i/\i<=999)/\(r.a9=none->v= .non)/\(∀ x m,r= .lot x m-> ∀ i,v= .int i->i < m)/\k<=k'/\k'<=k+10/\run pg (j+3) "_law_value" [.ref 1,bE S r] (aI ns::aF k o::g)= .ok v (aI ns::aF k' o::g):=by
 obtain⟨th,vl,e,_,hv⟩:=sH ho;rw[e];rcases ou ho with⟨x,m,rfl⟩ | ⟨nl,km⟩
 . rw[hv x m rfl];obtain⟨w,w0,w1,ew⟩:=aX T j g hn o (k:=k) m k0 (by omega) (by have:=hr.2;omega) (by have:=hr.2;omega);obtain⟨c,c0,c1,ec⟩:=aX T j (g++[.lst [.int 0,.int (m - 1),.int w]]) hn o (k:=k+1) 3 (by omega) (by omega) (by decide) (by decide);obtain⟨v,v0,v9,vn,ev⟩:=DU hr.2 w0 w1 c0 c1;refine⟨.int v,k+1+1,λy q=>⟨v,rfl,v0,v9⟩,(λq=>nomatch q),(λy q z i e=>by cases z;cases e;exact vn),by omega,by omega,?_⟩;rw[run_eq T.gO rfl];simp? [cC,dN,Rw.w,ew,ec,ev];exact c7 rfl
 . cases hp:r.a9 with
   | none =>
    have nm: ¬ r.w∈(["get", "fetch", "clock", "hear"]:List Str):=λz=>by have:=km.mp z;rw [hp] at this;exact nomatch this
    refine ⟨.non,k,(λy q=>nomatch q),λ_=>rfl,(λy q z=>by subst z;exact nomatch hp),by omega,by omega,?_⟩
    rw [run_eq T.gO rfl]
    simp? [cC,dN,nl,in4,nm]
   | some y =>
    have nm:r.w∈(["get", "fetch", "clock", "hear"]:List Str):=km.mpr (by rw [hp];rfl)
    obtain ⟨w,w0,w1,ew⟩:=aX T j g hn o (k:=k) 1000 k0 (by omega) (by decide) (by decide)
    obtain ⟨c,c0,c1,ec⟩:=aX T j (g++[.lst [.int 0,.int 1,.int 999,.int w]]) hn o (k:=k+1) 4 (by omega) (by omega) (by decide) (by decide)
    obtain ⟨v,v0,v9,ev⟩:=Ku w0 w1 c0 c1
    refine⟨.int v,k+1+1,λz q=>⟨v,rfl,v0,v9⟩,(λq=>nomatch q),(λy q z=>by subst z;exact absurd rfl nl),by omega,by omega,?_⟩
    rw[run_eq T.gO rfl]
    simp? [cC,dN,nl,in4,nm,ew,ec,ev]
    exact c7 rfl
end
noncomputable def told(s:aR)(r:Rw)(v:PV):PV:=match bE s r with
 | .tup [a,b,_]=> .tup [a,b,v]
 | x=>x
structure p8(L M:List Str)(rs:List Rw)(s:aR):Prop where
 ok:cG L rs s
 rest:bf rs s=true
 yr:s.held.Pairwise hI
 sub: ∀ x∈s.held,x∈M
noncomputable def jk(M:List Str)(rs:List Rw):Prop:= ∀ l,Rw.take l∈rs->l∈M
theorem p8.len{L M:List Str}{rs:List Rw}{s:aR}(h:p8 L M rs s):s.held.length<=M.length:=List.Nodup.length_le_of_subset (qr h.yr) h.sub
theorem p8.idle{L M:List Str}{rs:List Rw}{s:aR}(h:p8 L M rs s){r:Rw}(e:rs[s.row]?=some r):own s.held r=false:=by
 have h1:=h.rest;unfold bf at h1;rw[e] at h1;simpa using h1
theorem zK{L:List Str}{rs:List Rw}{s:aR}{r:Rw}{v:PV}(hs:cG L rs s)(hr:cO L rs.length r)(e:rs[s.row]?=some r)(hv: ∀ x,r.a9=some x-> ∃ i:Int,v= .int i/\0<=i/\i<=999):cG L rs (after s v r):=by
 have hlt:s.row < rs.length:=(List.getElem?_eq_some_iff.mp e).1;have pk: ∀ x,r.a9=some x->x∈L->fJ L (lay s.ps x (PV.num v)):=λx q hx=>by
  obtain⟨i,rfl,h0,h9⟩:=hv x q;exact qR hs.pk hx h0 h9
 cases r with
 | get x b=>exact⟨pk x rfl hr,hlt⟩
 | fetch x b=>exact⟨pk x rfl hr,hlt⟩
 | clock x=>exact⟨pk x rfl hr,hlt⟩
 | lot x n=>exact⟨pk x rfl hr.1,hlt⟩
 | hear x d=>exact⟨pk x rfl hr,hlt⟩
 | _=>exact⟨hs.pk,hlt⟩
theorem p8.next{L M:List Str}{rs:List Rw}{s:aR}(h:p8 L M rs s)(hM:jk M rs)(hr: ∀ r∈rs,cO L rs.length r){r:Rw}(e:rs[s.row]?=some r){v:PV}(hv: ∀ x,r.a9=some x-> ∃ i:Int,v= .int i/\0<=i/\i<=999):p8 L M rs (aW rs 200 (after s v r)):=by
 have hm:=List.mem_of_getElem? e;refine⟨jP hr 200 _ (zK h.ok (hr r hm) e hv),gG 200 _,?_,?_⟩<;>rw[fC]
 . cases r with
   | take l =>
    have hl: ¬ l∈s.held:=by simpa [own] using h.idle e
    exact iS (List.nodup_append.mpr ⟨qr h.yr,by simp,λa ha b hb q=>hl (by rw[<- List.mem_singleton.mp hb,<- q];exact ha)⟩)
   | free l=>exact h.yr.sublist List.filter_sublist
   | _=>exact h.yr
 . cases r with
   | take l =>
    intro x m
    rcases List.mem_append.1 ((bT _).mem_iff.mp m) with m | m
    . exact h.sub x m
    . rw [List.mem_singleton.mp m];exact hM l hm
   | free l=>exact λx m=>h.sub x (List.mem_filter.mp m).1
   | _=>exact h.sub
theorem gx {S:aR} {r:Rw} (ho:own S.held r=false):(r.w∈(["get", "fetch", "clock", "lot", "hear"]:List Str))↔r.a9.isSome=true:=by
 cases r with
 | let_ _ _=>exact nomatch ho
 | leap _ _=>exact nomatch ho
 | _=>simp only[Rw.w,Rw.a9,Option.isSome_some,Option.isSome_none];decide +kernel
theorem sI {a:Str} {g:PH}:jI (.str a) (.ktup [(.str "get"),(.str "fetch"),(.str "clock"),(.str "lot"),(.str "hear")]) g= .ok (.bl (decide (a∈(["get", "fetch", "clock", "lot", "hear"]:List Str)))) g:=in_K (ss:=["get", "fetch", "clock", "lot", "hear"])
structure Fits (s:aR) (r:Rw) (t:Str) (v:PV):Prop where
 te: ∃ vl,bE s r= .tup [.str r.w,.str t,vl]∧(r.a9=none->v=vl)
 pk: ∀ x,r.a9=some x-> ∃ i:Int,v= .int i∧0<=i∧i<=999∧ ∀ y m,r= .lot y m->i < m
noncomputable def g9(r:Rw)(t:Str)(v m:PV):PV:= .tup [.str r.w,.str t,v,m]
theorem rg{s:aR}{r:Rw}(ho:own s.held r=false): ∃(t:Str)(vl:PV),bE s r= .tup [.str r.w,.str t,vl]/\(vl= .non\/ ∃ i,vl= .int i)/\(r.a9=none->(∃ i,vl= .int i)\/(vl= .non/\(r.w= "take" \/r.w= "free")))/\(∀ x n,r= .lot x n->vl= .int n):=by
 cases r with
 | let_ _ _=>exact nomatch ho
 | leap _ _=>exact nomatch ho
 | put b e=>exact⟨_,_,rfl,.inr ⟨_,rfl⟩,λ_=> .inl ⟨_,rfl⟩,λ_ _ q=>nomatch q⟩
 | send b e=>exact⟨_,_,rfl,.inr ⟨_,rfl⟩,λ_=> .inl ⟨_,rfl⟩,λ_ _ q=>nomatch q⟩
 | say b e=>exact⟨_,_,rfl,.inr ⟨_,rfl⟩,λ_=> .inl ⟨_,rfl⟩,λ_ _ q=>nomatch q⟩
 | take _=>exact⟨_,_,rfl,.inl rfl,λ_=> .inr ⟨rfl,.inl rfl⟩,λ_ _ q=>nomatch q⟩
 | free _=>exact⟨_,_,rfl,.inl rfl,λ_=> .inr ⟨rfl,.inr rfl⟩,λ_ _ q=>nomatch q⟩
 | lot x n=>exact⟨_,_,rfl,.inr ⟨_,rfl⟩,(λq=>nomatch q),λ_ _ q=>by cases q;rfl⟩
 | _=>exact⟨_,_,rfl,.inl rfl,(λq=>nomatch q),λ_ _ q=>nomatch q⟩
theorem Jp{s:aR}{r:Rw}(ho:own s.held r=false):(∃ x n,r= .lot x n)\/ ¬ r.w= "lot" :=(ou ho).imp id And.left
section
variable{pg:Tb}(T:cP pg)
include T
theorem jU(k:Nat)(h:PH)(i:Int):run pg (k+1) "is_whole" [.int i] h= .ok (.bl true) h:=by
 rw[run_eq T.nW rfl];simp? [dz,fq,nY,jF]
theorem tF(k:Nat)(h:PH){i:Int}(h0:0<=i)(h9:i<=999):run pg (k+3) "is_value" [.int i] h= .ok (.bl true) h:=by
 have q:run pg (k+2) "is_between" [.int i,.int 0,.int 999] h= .ok (.bl true) h:=by
  rw[run_eq T.j1 rfl];simp? [cb,cY,jU T k,h0,h9]
 rw[run_eq T.mS rfl];simp? [d6,gH,q]
theorem four(k:Nat)(h:PH)(a b c d:PV):run pg (k+1) "is_tuple_of" [.tup [a,b,c,d],.int 4] h= .ok (.bl true) h:=by
 rw[run_eq T.jg rfl];simp? [ck,dq,gC];rfl
theorem pE(k:Nat)(g:PH){s:aR}{r:Rw}(ho:own s.held r=false){t:Str}{v:PV}(f:Fits s r t v)(m:PV):run pg (k+5) "gives_look" [bE s r,g9 r t v m] g= .ok (.bl true) g:=by
 obtain⟨t',vl,e,nv,nn,lt⟩:=rg ho;obtain⟨vl',e',ow⟩:=f.te;rw[e'] at e;injection e with e;injection e with _ e;injection e with e1 e;injection e with e2 _;subst e2;injection e1 with e1;subst e1;rw [e',g9,run_eq T.bY rfl];cases hp:r.a9 with
 | none =>
  have nk: ¬ r.w∈(["get", "fetch", "clock", "lot", "hear"]:List Str):=λz=>by have:=(gx ho).mp z;rw [hp] at this;exact nomatch this
  rw [ow hp]
  rcases nv with rfl | ⟨i,rfl⟩
  . simp? [aO,aT,four T (k+3),sI,nk]
  . simp? [aO,aT,four T (k+3),sI,nk,jU T (k+3)]
 | some y =>
  have nk:r.w∈(["get", "fetch", "clock", "lot", "hear"]:List Str):=(gx ho).mpr (by rw [hp];rfl)
  obtain ⟨i,rfl,i0,i9,il⟩:=f.pk y hp
  have mc:run pg (k+4) "may_come" [.tup [.str r.w,.str t,vl'],.int i] g= .ok (.bl true) g:=by
   rw [run_eq T.jD rfl];rcases Jp ho with⟨x,n,rfl⟩ | nl
   . have:=il x n rfl;rw[lt x n rfl];simp? [cg,cU,tF T k _ i0 i9,Rw.w,this]
   . simp? [cg,cU,tF T k _ i0 i9,nl]
  simp? [aO,aT,four T (k+3),sI,nk,mc]
end
inductive Goes(rs:List Rw):aR->List PV->aR->Prop
 | nil (s:aR):Goes rs s [] s
 | cons {s:aR} {r:Rw} {t:Str} {v m:PV} {ys:List PV} {s':aR} (e:rs[s.row]?=some r) (f:Fits s r t v) (g:Goes rs (aW rs 200 (after s v r)) ys s'):Goes rs s (g9 r t v m::ys) s'
noncomputable def jm(q:PV × Nat):PV:= .tup [.int (q.2:Int),q.1]
noncomputable def FC:MG:=(gT 2 (aG (gN 5) (aG (gN 6) dA)))
noncomputable def gB:MS:=(ai (ak (ah "touch_of" (aa (ab 0) (aa (ab 1) (aa (ab 4) ae)))) (gN 7)) (ai (bt (zW (aq (oH (dO false) (ab 7))) (oP (aq (ah "gives_look" (aa (ab 7) (aa (ab 6) ae)))))) (az (ab 5)) bA) (ak (ah "seat_behind" (aa (ab 0) (aa (ab 1) (aa (ab 4) (aa (ag ar (ab 6) (eC (.int 2))) ae))))) (gN 4))))
section
variable{pg:Tb}(T:cP pg)
include T
theorem pI(k:Nat)(h:PH){L M:List Str}(hL:L.length<=20){p:PV}{j:Int}{rs:List Rw}(ha:fZ p j rs)(hr: ∀ r∈rs,cO L rs.length r)(hM:jk M rs)(lM:M.length<=60)(s0 xs:PV)(xs0:List PV){s s':aR}{ys:List PV}(A:Goes rs s ys s') :
  p8 L M rs s-> ∀(rest:List PV)(i:Nat)(u5 u6 u7:Option PV),p8 L M rs s'/\ ∃ u5' u6' u7':Option PV,
  bF ⟨none,xs0⟩ (bW FC gB (run pg (k+11))) (((ys++rest).zipIdx i).map jm) [some p,some (.int j),some s0,some xs,some (ao s),u5,u6,u7] h =
  bF ⟨none,xs0⟩ (bW FC gB (run pg (k+11))) ((rest.zipIdx (i+ys.length)).map jm) [some p,some (.int j),some s0,some xs,some (ao s'),u5',u6',u7'] h:=by
 induction A with
 | nil s=>intro hs rest i u5 u6 u7;exact⟨hs,u5,u6,u7,rfl⟩
 | @cons s r t v m ys s' e f A ih =>
  intro hs rest i u5 u6 u7
  have ho:=hs.idle e
  have hh:s.held.length<=60:=Nat.le_trans hs.len lM
  have hv: ∀ x,r.a9=some x-> ∃ i:Int,v= .int i/\0<=i/\i<=999:=λx q=>by
   obtain⟨i,a,b,c,_⟩:=f.pk x q;exact⟨i,a,b,c⟩
  have t1:run pg (k+11) "touch_of" [p,.int j,ao s] h=_:=lI T (k+1) _ hL ha hr hs.ok
  obtain⟨vl,te,_⟩:=f.te
  have tr:b9 rs s= .tup [.str r.w,.str t,vl]:=by unfold b9;rw[e];exact te
  have gy:=pE T (k+6) h ho f m
  rw[te] at gy
  rw[tr] at t1
  have b1:run pg (k+11) "seat_behind" [p,.int j,ao s,v] h=_:=mT T k h hL ha hr hs.ok hh e hv
  obtain⟨hs',u5',u6',u7',q⟩:=ih (hs.next hM hr e hv) rest (i+1) (some (.int (i:Int))) (some (g9 r t v m)) (some (.tup [.str r.w,.str t,vl]))
  refine⟨hs',u5',u6',u7',?_⟩
  rw[List.length_cons,show i+(ys.length+1)=i+1+ys.length by omega,<- q,List.cons_append,List.zipIdx_cons,List.map_cons,ft]
  have i2: ∀ g,ar (g9 r t v m) (.int 2) g= .ok v g:=λg=>rfl
  unfold gB FC
  simp? [jm,t1,gy,b1,i2,cB]
theorem zg(k:Nat)(h:PH){L M:List Str}(hL:L.length<=20){p:PV}{j:Int}{rs:List Rw}(ha:fZ p j rs)(hr: ∀ r∈rs,cO L rs.length r)(hM:jk M rs)(lM:M.length<=60){s s':aR}(hs:p8 L M rs s){ys:List PV}(A:Goes rs s ys s'):run pg (k+12) "goes_so" [p,.int j,ao s,.tup ys] h= .ok (.int ys.length) h:=by
 obtain⟨_,u5,u6,u7,q⟩:=pI T k h hL ha hr hM lM (ao s) (.tup ys) (ys.zipIdx.map jm) A hs [] 0 none none none;rw[List.append_nil,List.zipIdx_nil,List.map_nil] at q;unfold gB FC jm at q;rw[run_eq T.pQ rfl];simp? [fc,iJ,vU,tO,q,iu]
theorem xW(k:Nat)(h:PH){L M:List Str}(hL:L.length<=20){p:PV}{j:Int}{rs:List Rw}(ha:fZ p j rs)(hr: ∀ r∈rs,cO L rs.length r)(hM:jk M rs)(lM:M.length<=60){s s':aR}(hs:p8 L M rs s){ys:List PV}(A:Goes rs s ys s'){y:PV}(B:List PV)
  (hy: ∀ r,rs[s'.row]?=some r->run pg (k+11) "gives_look" [bE s' r,y] h= .ok (.bl false) h):run pg (k+12) "goes_so" [p,.int j,ao s,.tup (ys++y::B)] h= .ok (.int ys.length) h:=by
 obtain⟨hs',u5,u6,u7,q⟩:=pI T k h hL ha hr hM lM (ao s) (.tup (ys++y::B)) ((ys++y::B).zipIdx.map jm) A hs (y::B) 0 none none none;rw[List.zipIdx_cons,List.map_cons,ft,Nat.zero_add] at q;have t1:run pg (k+11) "touch_of" [p,.int j,ao s'] h=_:=lI T (k+1) _ hL ha hr hs'.ok;have st:bW FC gB (run pg (k+11)) (jm (y,ys.length)) [some p,some (.int j),some (ao s),some (.tup (ys++y::B)),some (ao s'),u5,u6,u7] h= .ok (.rt (.int ys.length)) h:=by
  cases e:rs[s'.row]? with
  | none =>
   have tn:b9 rs s'= .non:=by unfold b9;rw[e]
   rw[tn] at t1
   simp? [gB,FC,jm,t1]
  | some r =>
   obtain⟨t,vl,te,_⟩:=rg (hs'.idle e)
   have tr:b9 rs s'= .tup [.str r.w,.str t,vl]:=by unfold b9;rw[e];exact te
   rw[tr] at t1
   have gy:=hy r e
   rw[te] at gy
   simp? [gB,FC,jm,t1,gy]
 rw[st] at q;have q':=q.trans (show _=RV.ok (.rt (.int ys.length)) h from rfl);unfold gB FC jm at q';rw[run_eq T.pQ rfl];simp? [fc,iJ,vU,tO,q']
end
noncomputable def ja(a:PV):Prop:=(∃ x,a= .str x)\/a= .non\/ ∃ i,a= .int i
noncomputable def df(c:PV):Prop:=c= .non\/(∃ b,c= .bl b)\/(∃ i,c= .int i)\/(∃ x,c= .str x)\/c= .tup [.int 1]
noncomputable def qD(h:PH)(y:PV):Prop:=cu [y,.ty "tuple"] h= .ok (.bl false) h\/ ∃ xs:List PV,y= .tup xs/\ ¬ (xs.length:Int)=4
noncomputable def Thing(h:PH)(y:PV):Prop:=qD h y\/ ∃ a b c m:PV,y= .tup [a,b,c,m]/\ja a/\(ja b\/b= .tup [.str "a"])/\df c
theorem Fx{x:Str}{h:PH}:fX .non (.str x) h= .ok (.bl true) h:=by simp[fX,alike,gZ,eg]
theorem FA{i:Int}{x:Str}{h:PH}:fX (.int i) (.str x) h= .ok (.bl true) h:=by simp[fX,alike,gZ,eg]
theorem Ms{x:Str}(hx:PyData.strOk x=true){h:PH}:fX (.tup [.str "a"]) (.str x) h= .ok (.bl true) h:=by
 have a1:PyData.strOk (Str.ofString "a")=true:=by decide +kernel
 have sc:gZ (.tup [.str "a"]) (.str x)=false:=rfl;have d1:dat 6 h (.tup [.str "a"])=some (.tuple [.str "a"]):=rfl;have d2:dat 6 h (.str x)=some (.str x):=rfl;have nd:eg h (.tup [.str "a"])=false:=rfl;have al:alike (.tup [.str "a"]) (.str x) h=some false:=by
  unfold alike;rw[sc,d1,d2];have c1:(PyData.tuple [.str "a"]).canLay0=true:=by simp[PyData.canLay0,PyData.canLayAll0,a1]
  have c2:(PyData.str x).canLay0=true:=by simp[PyData.canLay0,hx]
  have c3:min (PyData.tuple [.str "a"]).depth (PyData.str x).depth<=64:=Nat.le_trans (Nat.min_le_left _ _) (by decide);simp only [if_false,Bool.false_eq_true,c1,c2,c3,and_self,if_true];rfl
 unfold fX;rw [al,nd];rfl
theorem K2 (a:Str) (h:PH):jI (.str a) (.tup [.str "take",.str "free"]) h= .ok (.bl (decide (a∈(["take", "free"]:List Str)))) h:=uD (ss:=["take", "free"])
noncomputable def LX (r:Rw) (vl:PV):Prop:=((∃ i,vl= .int i)∧(¬ r.w∈(["take", "free"]:List Str)∧r.w∈(["put", "send", "say"]:List Str))∧r.a9=none) ∨
  (vl= .non∧r.w∈(["take", "free"]:List Str)∧r.a9=none) ∨
  ((¬ r.w∈(["take", "free"]:List Str)∧ ¬ r.w∈(["put", "send", "say"]:List Str))∧(∃ x,r.a9=some x)∧((∃ x n,r= .lot x n∧vl= .int n)∨(¬ r.w= "lot" /\ ∀ x n,¬ r= .lot x n)))
theorem wJ {s:aR} {r:Rw} (ho:own s.held r=false) (hn:jY r): ∃ (t:Str) (vl:PV),bE s r= .tup [.str r.w,.str t,vl]∧(vl= .non∨ ∃ i,vl= .int i)∧PyData.strOk t=true∧LX r vl:=by
 have e0:PyData.strOk (Str.ofString "")=true:=by decide +kernel
 have k1: ∀ w∈(["put", "send", "say"]:List Str),¬ w∈(["take", "free"]:List Str)∧w∈(["put", "send", "say"]:List Str):=by decide +kernel
 have k2: ∀ w∈(["get", "fetch", "clock", "hear", "lot"]:List Str),¬ w∈(["take", "free"]:List Str)∧ ¬ w∈(["put", "send", "say"]:List Str):=by decide +kernel
 have k3: ∀ w∈(["get", "fetch", "clock", "hear"]:List Str),¬ w= "lot" :=by decide +kernel
 cases r with
 | let_ _ _=>exact nomatch ho
 | leap _ _=>exact nomatch ho
 | put _ _=>exact⟨_,_,rfl,.inr ⟨_,rfl⟩,hn.1,.inl ⟨⟨_,rfl⟩,k1 _ (.head _),rfl⟩⟩
 | send _ _=>exact⟨_,_,rfl,.inr ⟨_,rfl⟩,hn.1,.inl ⟨⟨_,rfl⟩,k1 _ (.tail _ (.head _)),rfl⟩⟩
 | say _ _=>exact⟨_,_,rfl,.inr ⟨_,rfl⟩,hn.1,.inl ⟨⟨_,rfl⟩,k1 _ (.tail _ (.tail _ (.head _))),rfl⟩⟩
 | take _=>exact⟨_,_,rfl,.inl rfl,hn.1,.inr (.inl ⟨rfl,.head _,rfl⟩)⟩
 | free _=>exact⟨_,_,rfl,.inl rfl,hn.1,.inr (.inl ⟨rfl,.tail _ (.head _),rfl⟩)⟩
 | get _ _=>exact⟨_,_,rfl,.inl rfl,hn.1,.inr (.inr ⟨k2 _ (.head _),⟨_,rfl⟩,.inr ⟨k3 _ (.head _),λ_ _ q=>nomatch q⟩⟩)⟩
 | fetch _ _=>exact⟨_,_,rfl,.inl rfl,hn.1,.inr (.inr ⟨k2 _ (.tail _ (.head _)),⟨_,rfl⟩,.inr ⟨k3 _ (.tail _ (.head _)),λ_ _ q=>nomatch q⟩⟩)⟩
 | clock _=>exact⟨_,_,rfl,.inl rfl,e0,.inr (.inr ⟨k2 _ (.tail _ (.tail _ (.head _))),⟨_,rfl⟩,.inr ⟨k3 _ (.tail _ (.tail _ (.head _))),λ_ _ q=>nomatch q⟩⟩)⟩
 | hear _ _=>exact⟨_,_,rfl,.inl rfl,hn.1,.inr (.inr ⟨k2 _ (.tail _ (.tail _ (.tail _ (.head _)))),⟨_,rfl⟩,.inr ⟨k3 _ (.tail _ (.tail _ (.tail _ (.head _)))),λ_ _ q=>nomatch q⟩⟩)⟩
 | lot x n=>exact⟨_,_,rfl,.inr ⟨_,rfl⟩,e0,.inr (.inr ⟨k2 _ (.tail _ (.tail _ (.tail _ (.tail _ (.head _))))),⟨_,rfl⟩,.inl ⟨x,n,rfl,rfl⟩⟩)⟩
noncomputable def j3(c:PV):Bool:=match c with
 | .int i=>decide (0<=i/\i<=999)
 | _=>false
noncomputable def wd(n:Int)(c:PV):Bool:=match c with
 | .int i=>decide (0<=i/\i<=n)
 | _=>false
noncomputable def eqB(j:Int)(c:PV):Bool:=match c with
 | .int i=>decide (i=j)
 | _=>false
noncomputable def Mi(c:PV):Bool:=match c with
 | .bl _=>true
 | _=>false
noncomputable def Oq(c:PV):Bool:=match c with
 | .int _=>true
 | _=>false
theorem wF{c:PV}(hc:df c)(h:PH):cu [c,.ty "bool"] h= .ok (.bl (Mi c)) h:=by rcases hc with rfl | ⟨b,rfl⟩ | ⟨i,rfl⟩ | ⟨x,rfl⟩ | rfl<;>rfl
theorem sj{c:PV}(hc:df c)(h:PH):cu [c,.ty "int"] h= .ok (.bl (Oq c||Mi c)) h:=by rcases hc with rfl | ⟨b,rfl⟩ | ⟨i,rfl⟩ | ⟨x,rfl⟩ | rfl<;>rfl
theorem wb{c:PV}(hc:df c):(∃ i,c= .int i)\/(Oq c=false/\ ∀ n,eqB n c=false/\wd n c=false/\j3 c=false):=by
 rcases hc with rfl | ⟨b,rfl⟩ | ⟨i,rfl⟩ | ⟨x,rfl⟩ | rfl
 . exact .inr ⟨rfl,λ_=>⟨rfl,rfl,rfl⟩⟩
 . exact .inr ⟨rfl,λ_=>⟨rfl,rfl,rfl⟩⟩
 . exact .inl ⟨i,rfl⟩
 . exact .inr ⟨rfl,λ_=>⟨rfl,rfl,rfl⟩⟩
 . exact .inr ⟨rfl,λ_=>⟨rfl,rfl,rfl⟩⟩
section
variable{pg:Tb}(T:cP pg)
include T
theorem ub(k:Nat)(h:PH){a:PV}(ha:ja a\/a= .tup [.str "a"])(w:Str):run pg (k+1) "_law_same" [a,.str w] h= .ok (.bl (decide (a= .str w))) h:=by
 rw[run_eq T.lL rfl];rcases ha with(⟨x,rfl⟩ | rfl | ⟨i,rfl⟩) | rfl
 . have:(PV.str x= .str w)=(x=w):=propext ⟨λq=>by cases q;rfl,λq=>by rw[q]⟩;simp? [bB,bX,qu,qQ,qw,IB,this]
 . simp? [bB,bX,qu,qQ,qw,J0,GI]
 . simp? [bB,bX,qu,qQ,qw,jF,GL]
 . simp? [bB,bX,qu,qQ,qw,Iz,GD]
theorem jV(k:Nat)(h:PH)(w:Str):run pg (k+1) "_law_same" [.str w,.str w] h= .ok (.bl true) h:=by rw[ub T k h (.inl (.inl ⟨w,rfl⟩)),decide_eq_true rfl]
theorem BC(k:Nat)(h:PH){c:PV}(hc:df c)(j:Int):run pg (k+1) "_law_same" [c,.int j] h= .ok (.bl (eqB j c)) h:=by
 rw[run_eq T.lL rfl];rcases wb hc with⟨i,rfl⟩ | ⟨z1,z2⟩
 . simp? [bB,bX,eqB,uV,jF,nY]
 . cases z:Mi c with
   | true=>simp? [bB,bX,(z2 j).1,uV,jF,wF hc,z]
   | false=>simp? [bB,bX,(z2 j).1,uV,jF,nY,wF hc,sj hc,z,z1,Bool.or_false]
theorem kL(k:Nat)(h:PH){c:PV}(hc:df c)(n:Int):run pg (k+1) "_law_whole" [c,.int 0,.int n] h= .ok (.bl (wd n c)) h:=by
 rw[run_eq T.qO rfl];rcases wb hc with⟨i,rfl⟩ | ⟨z1,z2⟩
 . by_cases z:0<=i
   . simp? [bZ,cX,wd,jF,nY,z,true_and]
   . simp? [bZ,cX,wd,jF,nY,z,false_and]
 . cases z:Mi c with
   | true=>simp? [bZ,cX,(z2 n).2.1,wF hc,sj hc,z,Bool.or_true]
   | false=>simp? [bZ,cX,(z2 n).2.1,sj hc,z,z1,Bool.or_false]
theorem vM(k:Nat)(h:PH){c:PV}(hc:df c)(hi:Oq c=false):run pg (k+1) "is_whole" [c] h= .ok (.bl false) h:=by
 rw[run_eq T.nW rfl];cases z:Mi c with
 | true=>simp? [dz,fq,wF hc,sj hc,z,Bool.or_true]
 | false=>simp? [dz,fq,sj hc,z,hi,Bool.or_false]
theorem mF(k:Nat)(h:PH){c:PV}(hc:df c):run pg (k+3) "is_value" [c] h= .ok (.bl (j3 c)) h:=by
 have q:run pg (k+2) "is_between" [c,.int 0,.int 999] h= .ok (.bl (j3 c)) h:=by
  rw[run_eq T.j1 rfl];rcases wb hc with⟨i,rfl⟩ | ⟨z1,z2⟩
  . by_cases z:0<=i
    . simp? [cb,cY,j3,jU T k,z,true_and]
    . simp? [cb,cY,j3,jU T k,z,false_and]
  . simp? [cb,cY,(z2 0).2.2,vM T k h hc z1]
 rw[run_eq T.mS rfl];simp? [d6,gH,q]
theorem EH(k:Nat)(h:PH){y:PV}(hy:qD h y):run pg (k+1) "is_tuple_of" [y,.int 4] h= .ok (.bl false) h:=by
 rw[run_eq T.jg rfl];rcases hy with q | ⟨xs,rfl,q⟩
 . simp? [ck,dq,q]
 . simp? [ck,dq,gC,q]
theorem Jc(k:Nat)(h:PH){y:PV}(hy:qD h y)(t:PV):run pg (k+5) "gives_look" [t,y] h= .ok (.bl false) h:=by
 rw[run_eq T.bY rfl];simp? [aO,aT,EH T (k+3) h hy]
theorem IT(k:Nat)(h:PH){y:PV}(hy:qD h y)(xs:List PV):run pg (k+5) "_law_is_look" [.tup xs,y] h= .ok (.bl false) h:=by
 rw[run_eq T.bR rfl];rcases hy with q | ⟨zs,rfl,q⟩
 . simp? [aM,aS,q]
 . simp? [aM,aS,gC,q]
theorem OH(k:Nat)(h:PH){w:Str}{a b c b' c' m:PV}(q:fX a (.str w) h= .ok (.bl true) h):run pg (k+5) "gives_look" [.tup [.str w,b,c],.tup [a,b',c',m]] h= .ok (.bl false) h:=by
 rw[run_eq T.bY rfl];simp? [aO,aT,four T (k+3),q]
theorem OX(k:Nat)(h:PH){w t:Str}{b c c' m:PV}(q:fX b (.str t) h= .ok (.bl true) h):run pg (k+5) "gives_look" [.tup [.str w,.str t,c],.tup [.str w,b,c',m]] h= .ok (.bl false) h:=by
 rw[run_eq T.bY rfl];simp? [aO,aT,four T (k+3),q]
theorem FH(k:Nat)(h:PH){w t:Str}{a b c c' m:PV}(ha:ja a)(hb:ja b\/b= .tup [.str "a"])(q: ¬ (a= .str w/\b= .str t)):run pg (k+5) "_law_is_look" [.tup [.str w,.str t,c],.tup [a,b,c',m]] h= .ok (.bl false) h:=by
 have l4:((0+1+1+1+1:Nat):Int)=4:=rfl;rw[run_eq T.bR rfl];by_cases z:a= .str w
 . have z2: ¬ b= .str t:=λz3=>q ⟨z,z3⟩;subst z;simp? [aM,aS,gC,jV T (k+3) h,ub T (k+3) h hb,z2,l4]
 . simp? [aM,aS,gC,ub T (k+3) h (.inl ha),z,l4]
end
theorem F0{c:PV}(hc:df c)(h:PH):dO false c h= .ok (.bl (decide (c= .non))) h:=by
 rcases hc with rfl | ⟨b,rfl⟩ | ⟨i,rfl⟩ | ⟨x,rfl⟩ | rfl<;>rfl
theorem Dc(c:PV):wd 999 c=j3 c:=rfl
section
variable {pg:Tb} (T:cP pg)
include T
theorem F9 (k:Nat) (h:PH) {w t:Str} {j:Int} {c m:PV} (nk: ¬ w∈(["get", "fetch", "clock", "lot", "hear"]:List Str)) (hc:df c):run pg (k+5) "gives_look" [.tup [.str w,.str t,.int j],.tup [.str w,.str t,c,m]] h= .ok (.bl (eqB j c)) h:=by
 rw [run_eq T.bY rfl];rcases wb hc with ⟨i,rfl⟩ | ⟨z1,z2⟩
 . simp? [aO,aT,four T (k+3),sI,nk,jU T (k+3),eqB]
 . simp? [aO,aT,four T (k+3),sI,nk,vM T (k+3) h hc z1,(z2 j).1]
theorem Jj (k:Nat) (h:PH) {w t:Str} {c m:PV} (nk: ¬ w∈(["get", "fetch", "clock", "lot", "hear"]:List Str)) (hc:df c):run pg (k+5) "gives_look" [.tup [.str w,.str t,.non],.tup [.str w,.str t,c,m]] h= .ok (.bl (decide (c= .non))) h:=by
 rw [run_eq T.bY rfl];simp? [aO,aT,four T (k+3),sI,nk,F0 hc]
theorem D2 (k:Nat) (h:PH) {w t:Str} {vl c m:PV} (nk:w∈(["get", "fetch", "clock", "lot", "hear"]:List Str)) (hc:df c) (hl: ¬ w= "lot"):run pg (k+5) "gives_look" [.tup [.str w,.str t,vl],.tup [.str w,.str t,c,m]] h= .ok (.bl (j3 c)) h:=by
 have mc:run pg (k+4) "may_come" [.tup [.str w,.str t,vl],c] h= .ok (.bl (j3 c)) h:=by
  rw [run_eq T.jD rfl];cases z:j3 c with
  | false=>simp? [cg,cU,mF T k _ hc,z]
  | true=>simp? [cg,cU,mF T k _ hc,z,hl]
 rw [run_eq T.bY rfl];simp? [aO,aT,four T (k+3),sI,nk,mc]
theorem Gg (k:Nat) (h:PH) {t:Str} {n:Int} (n9:n<=1000) {c m:PV} (hc:df c):run pg (k+5) "gives_look" [.tup [.str "lot",.str t,.int n],.tup [.str "lot",.str t,c,m]] h= .ok (.bl (wd (n - 1) c)) h:=by
 have nk:(Str.ofString "lot")∈(["get", "fetch", "clock", "lot", "hear"]:List Str):=by decide +kernel
 have mc:run pg (k+4) "may_come" [.tup [.str "lot",.str t,.int n],c] h= .ok (.bl (wd (n - 1) c)) h:=by
  rw [run_eq T.jD rfl];cases z:j3 c with
  | false =>
   have z2:wd (n - 1) c=false:=by
    rcases hc with rfl | ⟨b,rfl⟩ | ⟨i,rfl⟩ | ⟨x,rfl⟩ | rfl<;>first | rfl | skip
    simp only[j3,wd,decide_eq_false_iff_not] at z ⊢;omega
   simp? [cg,cU,mF T k _ hc,z,z2]
  | true =>
   obtain⟨i,rfl⟩: ∃ i,c= .int i:=by
    rcases hc with rfl | ⟨b,rfl⟩ | ⟨i,rfl⟩ | ⟨x,rfl⟩ | rfl<;>first | exact⟨_,rfl⟩ | exact nomatch z
   have z2:wd (n - 1) (.int i)=decide (i < n):=by
    simp only[j3,wd,decide_eq_true_eq] at z ⊢;exact decide_eq_decide.mpr (by omega)
   simp? [cg,cU,mF T k _ hc,z,z2]
 rw [run_eq T.bY rfl];simp? [aO,aT,four T (k+3),sI,nk,mc]
theorem HE (k:Nat) (h:PH) {w t:Str} {j:Int} {c m:PV} (n1: ¬ w∈(["take", "free"]:List Str)) (n2:w∈(["put", "send", "say"]:List Str)) (hc:df c):run pg (k+5) "_law_is_look" [.tup [.str w,.str t,.int j],.tup [.str w,.str t,c,m]] h= .ok (.bl (eqB j c)) h:=by
 have l4:((0+1+1+1+1:Nat):Int)=4:=rfl;rw [run_eq T.bR rfl];simp? [aM,aS,gC,jV T (k+3) h,BC T (k+3) h hc,l4,K2,yq,n1,n2]
theorem J5 (k:Nat) (h:PH) {w t:Str} {c m:PV} (n1:w∈(["take", "free"]:List Str)) (hc:df c):run pg (k+5) "_law_is_look" [.tup [.str w,.str t,.non],.tup [.str w,.str t,c,m]] h= .ok (.bl (decide (c= .non))) h:=by
 have l4:((0+1+1+1+1:Nat):Int)=4:=rfl;rw [run_eq T.bR rfl];simp? [aM,aS,gC,jV T (k+3) h,F0 hc,l4,K2,n1]
theorem Ct (k:Nat) (h:PH) {w t:Str} {vl c m:PV} (n1: ¬ w∈(["take", "free"]:List Str)) (n2: ¬ w∈(["put", "send", "say"]:List Str)) (hl: ¬ w= "lot") (hc:df c):run pg (k+5) "_law_is_look" [.tup [.str w,.str t,vl],.tup [.str w,.str t,c,m]] h= .ok (.bl (j3 c)) h:=by
 have l4:((0+1+1+1+1:Nat):Int)=4:=rfl;rw [run_eq T.bR rfl,<- Dc];simp? [aM,aS,gC,jV T (k+3) h,kL T (k+3) h hc,l4,K2,yq,n1,n2,hl]
theorem G9 (k:Nat) (h:PH) {t:Str} {n:Int} {c m:PV} (hc:df c):run pg (k+5) "_law_is_look" [.tup [.str "lot",.str t,.int n],.tup [.str "lot",.str t,c,m]] h= .ok (.bl (wd (n - 1) c)) h:=by
 have l4:((0+1+1+1+1:Nat):Int)=4:=rfl;have n1: ¬ (Str.ofString "lot")∈(["take", "free"]:List Str):=by decide +kernel
 have n2: ¬ (Str.ofString "lot")∈(["put", "send", "say"]:List Str):=by decide +kernel
 rw [run_eq T.bR rfl];simp? [aM,aS,gC,jV T (k+3) h,kL T (k+3) h hc,l4,K2,yq,n1,n2]
theorem LC (k q:Nat) (h:PH) {L:List Str} {N:Nat} {s:aR} {r:Rw} (ho:own s.held r=false) (hr:cO L N r) (hn:jY r) {y:PV} (hy:Thing h y) :
  ((∃ t v m,Fits s r t v/\y=g9 r t v m)/\run pg (k+5) "_law_is_look" [bE s r,y] h= .ok (.bl true) h)\/(run pg (q+5) "gives_look" [bE s r,y] h= .ok (.bl false) h/\run pg (k+5) "_law_is_look" [bE s r,y] h= .ok (.bl false) h):=by
 obtain⟨t,vl,e,_,tk,kd⟩:=wJ ho hn;rw[e];rcases hy with hy | ⟨a,b,c,m,rfl,ha,hb,hc⟩
 . exact .inr ⟨Jc T q h hy _,IT T k h hy _⟩
 by_cases za:a= .str r.w
 . by_cases zb:b= .str t
   . subst za zb;have fin: ∀ B:Bool,run pg (q+5) "gives_look" [.tup [.str r.w,.str t,vl],.tup [.str r.w,.str t,c,m]] h= .ok (.bl B) h->run pg (k+5) "_law_is_look" [.tup [.str r.w,.str t,vl],.tup [.str r.w,.str t,c,m]] h= .ok (.bl B) h->(B=true->Fits s r t c)->((∃ t' v m',Fits s r t' v/\PV.tup [.str r.w,.str t,c,m]=g9 r t' v m')/\run pg (k+5) "_law_is_look" [.tup [.str r.w,.str t,vl],.tup [.str r.w,.str t,c,m]] h= .ok (.bl true) h)\/(run pg (q+5) "gives_look" [.tup [.str r.w,.str t,vl],.tup [.str r.w,.str t,c,m]] h= .ok (.bl false) h/\run pg (k+5) "_law_is_look" [.tup [.str r.w,.str t,vl],.tup [.str r.w,.str t,c,m]] h= .ok (.bl false) h):=λB g1 g2 g3=>by
      cases B with
      | true=>exact .inl ⟨⟨t,c,m,g3 rfl,rfl⟩,g2⟩
      | false=>exact .inr ⟨g1,g2⟩
     rcases kd with ⟨⟨j,rfl⟩,⟨n1,n2⟩,hp⟩ | ⟨rfl,n1,hp⟩ | ⟨⟨n1,n2⟩,⟨x,hp⟩,z⟩
     . have nk: ¬ r.w∈(["get", "fetch", "clock", "lot", "hear"]:List Str):=λz=>by have:=(gx ho).mp z;rw [hp] at this;exact nomatch this
       refine fin _ (F9 T q h nk hc) (HE T k h n1 n2 hc) λz=>⟨⟨_,e,λ_=>?_⟩,λx p=>by rw [hp] at p;exact nomatch p⟩
       rcases hc with rfl | ⟨b,rfl⟩ | ⟨i,rfl⟩ | ⟨x,rfl⟩ | rfl<;>first | (simp only [eqB,decide_eq_true_eq] at z;rw [z];done) | exact nomatch z
     . have nk: ¬ r.w∈(["get", "fetch", "clock", "lot", "hear"]:List Str):=λz=>by have:=(gx ho).mp z;rw [hp] at this;exact nomatch this
       exact fin _ (Jj T q h nk hc) (J5 T k h n1 hc) λz=>⟨⟨_,e,λ_=>of_decide_eq_true z⟩,λx p=>by rw [hp] at p;exact nomatch p⟩
     . have nk:r.w∈(["get", "fetch", "clock", "lot", "hear"]:List Str):=(gx ho).mpr (by rw [hp];rfl);rcases z with ⟨x',n,rfl,rfl⟩ | ⟨z1,z2⟩
       . have hr2:2<=n∧n<=1000:=hr.2;refine fin _ (Gg T q h hr2.2 hc) (G9 T k h hc) λz=>⟨⟨_,e,λp=>by rw [hp] at p;exact nomatch p⟩,λx p=>?_⟩
         rcases hc with rfl | ⟨b,rfl⟩ | ⟨i,rfl⟩ | ⟨x,rfl⟩ | rfl<;>first | (simp only[wd,decide_eq_true_eq] at z;exact⟨_,rfl,z.1,by omega,λy m q=>by cases q;omega⟩) | exact nomatch z
       . refine fin _ (D2 T q h nk hc z1) (Ct T k h n1 n2 z1 hc) λz=>⟨⟨_,e,λp=>by rw[hp] at p;exact nomatch p⟩,λx p=>?_⟩
         rcases hc with rfl | ⟨b,rfl⟩ | ⟨i,rfl⟩ | ⟨x,rfl⟩ | rfl<;>first | (simp only[j3,decide_eq_true_eq] at z;exact⟨_,rfl,z.1,z.2,λy m q=>absurd q (z2 y m)⟩) | exact nomatch z
   . subst za;refine .inr ⟨OX T q h ?_,FH T k h ha hb λz=>zb z.2⟩;rcases hb with(⟨x,rfl⟩ | rfl | ⟨i,rfl⟩) | rfl
     . have: ¬ x=t:=λz=>zb (by rw[z]);rw[rn,decide_eq_false this];rfl
     . exact Fx
     . exact FA
     . exact Ms tk
 . refine .inr ⟨OH T q h ?_,FH T k h ha hb λz=>za z.1⟩;rcases ha with⟨x,rfl⟩ | rfl | ⟨i,rfl⟩
   . have: ¬ x=r.w:=λz=>za (by rw[z]);rw[rn,decide_eq_false this];rfl
   . exact Fx
   . exact FA
end
noncomputable def FF:MT:=(kF (aq (ag Br (ab 3) (eB bN (aa (ab 2) ae)))) (aq (ah "_law_is_look" (aa (ab 4) (aa (ag ar (ab 2) (ab 3)) ae)))))
noncomputable def N9:MS:=(ai (ak (ah "_law_behind" (aa (ab 0) (aa (ab 1) (aa (ag ar (ag ar (ab 2) (ab 3)) (eC (.int 2))) ae)))) (gN 1)) (ai (ak (ah "_law_touch" (aa (ab 0) (aa (ab 1) ae))) (gN 4)) (ak (ag aE (ab 3) (eC (.int 1))) (gN 3))))
theorem Pu{ys:List PV}{u:Nat}{y:PV}{r:List PV}(h:ys.drop u=y::r):ys[u]?=some y/\ys.drop (u+1)=r/\u < ys.length:=by
 have e:ys[u]?=some y:=by rw[<- List.head?_drop,h];rfl
 exact⟨e,by rw[<- List.drop_drop,h];rfl,(List.getElem?_eq_some_iff.mp e).1⟩
section
variable{pg:Tb}(T:cP pg)
include T
theorem zD(k:Nat)(h:PH){L:List Str}{N:Nat}{s:aR}{r:Rw}(ho:own s.held r=false)(hr:cO L N r)(hn:jY r){t:Str}{v:PV}(f:Fits s r t v)(m:PV):run pg (k+5) "_law_is_look" [bE s r,g9 r t v m] h= .ok (.bl true) h:=by
 have hc:df v:=by
  cases hp:r.a9 with
  | none =>
   obtain⟨vl,te,ow⟩:=f.te
   obtain⟨t',vl',e',nv',_⟩:=rg ho
   rw[te] at e';cases e'
   rw[ow hp]
   rcases nv' with rfl | ⟨i,rfl⟩
   . exact .inl rfl
   . exact .inr (.inr (.inl ⟨i,rfl⟩))
  | some x=>obtain⟨i,rfl,_⟩:=f.pk x hp;exact .inr (.inr (.inl ⟨i,rfl⟩))
 rcases LC T k k h ho hr hn (y:=g9 r t v m) (.inr ⟨_,_,_,_,rfl,.inl ⟨_,rfl⟩,.inl (.inl ⟨_,rfl⟩),hc⟩) with⟨_,q⟩ | ⟨q,_⟩
 . exact q
 . rw[pE T k h ho f m] at q;exact nomatch q
theorem D7(k:Nat)(h:PH){L M:List Str}(hL:L.length<=20){rs:List Rw}(hr: ∀ r∈rs,cO L rs.length r)(hn: ∀ r∈rs,jY r)(hM:jk M rs)(lM:M.length<=60){nT:Nat}{ys:List PV}(hT:h[nT]?=some (.lst ys)){s s':aR}{pre:List PV}(A:Goes rs s pre s') :
  p8 L M rs s-> ∀(post:List PV)(i f:Nat),ys.drop i=pre++post ->
  dH (FF (run pg (k+11))) (N9 (run pg (k+11))) (f+pre.length) [some (au rs),some (ao s),some (.ref nT),some (.int i),some (b9 rs s)] h =
  dH (FF (run pg (k+11))) (N9 (run pg (k+11))) f [some (au rs),some (ao s'),some (.ref nT),some (.int ((i+pre.length:Nat):Int)),some (b9 rs s')] h:=by
 induction A with
 | nil s=>intro hs post i f _;rfl
 | @cons s r t v m pre s' e f A ih =>
  intro hs post i fu hd
  rw[List.cons_append] at hd
  obtain⟨ey,hd',lt⟩:=Pu hd
  have ho:=hs.idle e
  have hm:=List.mem_of_getElem? e
  have hh:s.held.length<=60:=Nat.le_trans hs.len lM
  have hv: ∀ x,r.a9=some x-> ∃ i:Int,v= .int i/\0<=i/\i<=999:=λx q=>by
   obtain⟨i,a,b,c,_⟩:=f.pk x q;exact⟨i,a,b,c⟩
  have sn:=hs.next hM hr e hv
  have tr:b9 rs s=bE s r:=by unfold b9;rw[e]
  have ly:=zD T (k+6) h ho (hr r hm) (hn r hm) f m
  have b1:run pg (k+11) "_law_behind" [au rs,ao s,v] h=_:=jc T k h hL hr hs.ok hs.yr hh e ho hv
  have t1:run pg (k+11) "_law_touch" [au rs,ao (aW rs 200 (after s v r))] h=_:=gQ T (k+1) h hL hr sn.ok sn.rest
  have i2: ∀ g,ar (g9 r t v m) (.int 2) g= .ok v g:=λg=>rfl
  have ln:bN [.ref nT] h= .ok (.int ys.length) h:=FO hT
  have ix:ar (.ref nT) (.int i) h= .ok (g9 r t v m) h:=by rw[CK,hT,CD,P3.dJ rfl ey];rfl
  have li:(i:Int) < (ys.length:Int):=by omega
  have q:=ih sn post (i+1) fu hd'
  rw[List.length_cons,show i+(pre.length+1)=i+1+pre.length by omega,<- q,show fu+(pre.length+1)=fu+pre.length+1 by omega]
  refine sJ (h1:=h) ?_ ?_
  . simp? [FF,ln,ix,tr,ly,li]
  . simp? [N9,ix,i2,b1,t1];rfl
theorem both(k:Nat)(h:PH){L M:List Str}(hL:L.length<=20){p:PV}{j:Int}{rs:List Rw}(ha:fZ p j rs)(hr: ∀ r∈rs,cO L rs.length r)(hn: ∀ r∈rs,jY r)(hM:jk M rs)(lM:M.length<=60){nT:Nat}{ys:List PV}(hT:h[nT]?=some (.lst ys))(hl:ys.length<=1000)(hy: ∀ y∈ys,Thing h y){s:aR}(hs:p8 L M rs s) :
  ∃ n:Nat,run pg (k+12) "goes_so" [p,.int j,ao s,.tup ys] h= .ok (.int n) h/\run pg (k+12) "_law_goes" [au rs,ao s,.ref nT] h= .ok (.int n) h:=by
 have sp: ∀(zs:List PV)(s:aR),p8 L M rs s->(∀ y∈zs,Thing h y)-> ∃(pre post:List PV)(s':aR),zs=pre++post/\Goes rs s pre s'/\p8 L M rs s'/\(post=[]\/ ∃ y B,post=y::B/\ ∀ r,rs[s'.row]?=some r->run pg (k+11) "gives_look" [bE s' r,y] h= .ok (.bl false) h/\run pg (k+11) "_law_is_look" [bE s' r,y] h= .ok (.bl false) h):=by
  intro zs
  induction zs with
  | nil=>intro s hs _;exact⟨[],[],s,rfl,.nil s,hs,.inl rfl⟩
  | cons y zs ih =>
   intro s hs hz
   cases e:rs[s.row]? with
   | none=>exact⟨[],y::zs,s,rfl,.nil s,hs,.inr ⟨y,zs,rfl,λr q=>by rw[e] at q;exact nomatch q⟩⟩
   | some r =>
    have ho:=hs.idle e
    have hm:=List.mem_of_getElem? e
    rcases LC T (k+6) (k+6) h ho (hr r hm) (hn r hm) (hz y List.mem_cons_self) with⟨⟨t,v,m,f,rfl⟩,_⟩ | q
    . have hv: ∀ x,r.a9=some x-> ∃ i:Int,v= .int i/\0<=i/\i<=999:=λx q=>by
       obtain⟨i,a,b,c,_⟩:=f.pk x q;exact⟨i,a,b,c⟩
      obtain⟨pre,post,s',e1,g1,s1,o1⟩:=ih _ (hs.next hM hr e hv) λy m=>hz y (List.mem_cons_of_mem _ m);exact⟨g9 r t v m::pre,post,s',by rw[e1];rfl,.cons e f g1,s1,o1⟩
    . exact⟨[],y::zs,s,rfl,.nil s,hs,.inr ⟨y,zs,rfl,λr' q'=>by rw[e] at q';cases q';exact q⟩⟩
 obtain⟨pre,post,s',rfl,A,hs',o⟩:=sp ys s hs hy;have ln:bN [.ref nT] h= .ok (.int ((pre++post).length:Nat)) h:=FO hT;have t0:run pg (k+11) "_law_touch" [au rs,ao s] h=_:=gQ T (k+1) h hL hr hs.ok hs.rest;have hl':pre.length<=1000:=by rw[List.length_append] at hl;omega
 have lp:=D7 T k h hL hr hn hM lM hT A hs post 0 (100000 - pre.length) rfl;rw[show 100000 - pre.length+pre.length=100000 by omega,Nat.zero_add] at lp;obtain⟨f,hf⟩: ∃ f,100000 - pre.length=f+1:=⟨99999 - pre.length,by omega⟩
 have st:FF (run pg (k+11)) [some (au rs),some (ao s'),some (.ref nT),some (.int (pre.length:Nat)),some (b9 rs s')] h= .ok false h:=by
  rcases o with rfl | ⟨y,B,rfl,q⟩
  . have: ¬ (pre.length:Int) < ((pre.length+0:Nat):Int):=by omega
    simp? [FF,ln,this]
  . have lt:(pre.length:Int) < ((pre.length+(B.length+1):Nat):Int):=by omega
    have ix:ar (.ref nT) (.int pre.length) h= .ok y h:=by rw[CK,hT,CD,P3.dJ rfl (v:=y) (by rw[List.getElem?_append_right (Nat.le_refl _),Nat.sub_self];rfl)];rfl
    cases e:rs[s'.row]? with
    | none =>
     have tn:b9 rs s'= .non:=by unfold b9;rw[e]
     have il:run pg (k+11) "_law_is_look" [.non,y] h= .ok (.bl false) h:=by
      rw[run_eq T.bR rfl];simp? [aM,aS]
     simp? [FF,ln,lt,ix,tn,il]
    | some r =>
     have tr:b9 rs s'=bE s' r:=by unfold b9;rw[e]
     simp? [FF,ln,lt,ix,tr,(q r e).2]
 rw[hf,jM st] at lp;refine⟨pre.length,?_,?_⟩
 . rcases o with rfl | ⟨y,B,rfl,q⟩
   . rw[List.append_nil];exact zg T k h hL ha hr hM lM hs A
   . exact xW T k h hL ha hr hM lM hs A B λr e=>(q r e).1
 . rw[show((0:Nat):Int)=(0:Int) from rfl] at lp;unfold FF N9 at lp;rw[run_eq T.sy rfl];simp? [eK,iz,yY,t0,lp]
end
noncomputable def LM(b:Nat)(J:PH)(m:PV):Prop:=m= .non\/m= .tup [.int 0,.int 1]\/m= .int 5\/m= .str "x" \/ ∃ i,m= .ref (b+i)/\J[i]?=some (.lst [.int 1])
noncomputable def Lk(b:Nat)(J:PH)(y:PV):Prop:= ∃(w t:Str)(v m:PV),y= .tup [.str w,.str t,v,m]/\PyData.strOk w=true/\PyData.strOk t=true/\(v= .non\/ ∃ i,v= .int i)/\LM b J m
theorem LM.more{b:Nat}{J:PH}{m:PV}(h:LM b J m)(K:PH):LM b (J++K) m:=by
 rcases h with h | h | h | h | ⟨i,h,e⟩
 . exact .inl h
 . exact .inr (.inl h)
 . exact .inr (.inr (.inl h))
 . exact .inr (.inr (.inr (.inl h)))
 . exact .inr (.inr (.inr (.inr ⟨i,h,by rw[List.getElem?_append_left (List.getElem?_eq_some_iff.mp e).1];exact e⟩)))
theorem Lk.more{b:Nat}{J:PH}{y:PV}(h:Lk b J y)(K:PH):Lk b (J++K) y:=by
 obtain⟨w,t,v,m,h1,h2,h3,h4,h5⟩:=h;exact⟨w,t,v,m,h1,h2,h3,h4,h5.more K⟩
theorem yA{xs:List PV}{c:Int}(c0:0<=c)(c1:c < xs.length): ∃ x∈xs,eP xs c=some x:=by
 obtain⟨n,rfl⟩:=Int.eq_ofNat_of_zero_le c0;exact⟨xs[n]'(by omega),List.getElem_mem _,P3.dJ rfl (List.getElem?_eq_getElem (by omega))⟩
theorem O8(r:Rw):PyData.strOk r.w=true:=by cases r<;>(show PyData.strOk (Str.ofString _)=true;decide +kernel)
noncomputable def K8:MS:=(bt (aq (ag jI (ag ar (ab 5) (eC (.int 0))) (aA (aa (eC (.str "put")) (aa (eC (.str "send")) (aa (eC (.str "say")) ae)))))) (ak (ag ar (ab 5) (eC (.int 2))) (gN 6)) bA)
noncomputable def KU:MS:=(ai (ak (ah "_law_touch" (aa (ab 1) (aa (ab 2) ae))) (gN 5)) (ai (bt (aq (oH (dO false) (ab 5))) (az (ab 3)) bA) (ai (ak (ah "_law_value" (aa (ab 0) (aa (ab 5) ae))) (gN 6)) (ai K8 (ai (ak (ag ar (aH (aa (eC .non) (aa (aA (aa (eC (.int 0)) (aa (eC (.int 1)) ae))) (aa (eC (.int 5)) (aa (eC (.str "x")) (aa (aH (aa (eC (.int 1)) ae)) ae)))))) (ah "_law_pick" (aa (ab 0) (aa (eC (.int 5)) ae)))) (gN 7)) (ai (fT (eM cV eG (ab 3) (aa (aA (aa (ag ar (ab 5) (eC (.int 0))) (aa (ag ar (ab 5) (eC (.int 1))) (aa (ab 6) (aa (ab 7) ae))))) ae))) (ak (ah "_law_behind" (aa (ab 1) (aa (ab 2) (aa (ab 6) ae)))) (gN 2))))))))
section
variable {pg:Tb} (T:cP pg)
include T
theorem uH (k : Nat) {ns : List Int} (hn : ns.length <= 63) {L M : List Str} (hL : L.length <= 20) {rs : List Rw} (hr : ∀ r ∈ rs, cO L rs.length r) (hm : ∀ r ∈ rs, jY r) (hM : jk M rs) (lM : M.length <= 60) (xs0 : List PV) (o : Option Int) (g : PH) :
    ∀ (av : List PV) (s : aR) (kk : Int) (zs : List PV) (J : PH) (u4 u5 u6 u7 : Option PV), p8 L M rs s -> 0 <= kk -> kk + 11 * av.length + 20 <= 1000000 -> zs.length + av.length <= 1000 -> (∀ z ∈ zs, Lk (g.length + 3) J z) ->
    ∃ (k' : Int) (zs' : List PV) (J' : PH), kk <= k' /\ k' <= kk + 11 * av.length /\ zs'.length <= zs.length + av.length /\ (∀ z ∈ zs', Lk (g.length + 3) J' z) ∧
      (bF ⟨none, xs0⟩ (bW (gN 4) KU (run pg (k + 11))) av [some (.ref 1), some (au rs), some (ao s), some (.ref (g.length + 1 + 1)), u4, u5, u6, u7] (aI ns :: aF kk o :: (g ++ .lst zs :: J)) = .ok (.rt (.ref (g.length + 1 + 1))) (aI ns :: aF k' o :: (g ++ .lst zs' :: J')) ∨
       ∃ (s' : PV) (v4 v5 v6 v7 : Option PV), bF ⟨none, xs0⟩ (bW (gN 4) KU (run pg (k + 11))) av [some (.ref 1), some (au rs), some (ao s), some (.ref (g.length + 1 + 1)), u4, u5, u6, u7] (aI ns :: aF kk o :: (g ++ .lst zs :: J)) = .ok (.nx [some (.ref 1), some (au rs), some s', some (.ref (g.length + 1 + 1)), v4, v5, v6, v7]) (aI ns :: aF k' o :: (g ++ .lst zs' :: J'))) := by
  intro av
  induction av with
  | nil => intro s kk zs J u4 u5 u6 u7 hs k0 k9 hl hz; exact ⟨kk, zs, J, by omega, by omega, by simp, hz, .inr ⟨_, u4, u5, u6, u7, iu⟩⟩
  | cons x av ih =>
    intro s kk zs J u4 u5 u6 u7 hs k0 k9 hl hz
    rw [List.length_cons] at k9 hl
    have t1 : run pg (k + 11) "_law_touch" [au rs, ao s] (aI ns :: aF kk o :: (g ++ .lst zs :: J)) = _ := gQ T (k + 1) _ hL hr hs.ok hs.rest
    cases e : rs[s.row]? with
    | none =>
      have tn : b9 rs s = .non := by unfold b9; rw [e]
      rw [tn] at t1
      refine ⟨kk, zs, J, by omega, by omega, by omega, hz, .inl ?_⟩
      rw [ft]
      unfold KU
      simp? (disch := omega) only [t1, q9]
    | some r =>
      have ho := hs.idle e
      have hm1 := List.mem_of_getElem? e
      obtain ⟨t, vl, te, nv, tk, kd⟩ := wJ ho (hm r hm1)
      have tr : b9 rs s = bE s r := by unfold b9; rw [e]
      rw [tr] at t1
      obtain ⟨v, k1, v1, v2, v3, q1, q2, q3⟩ := qK T (k + 8) hn (hr r hm1) ho kk o (g ++ .lst zs :: J) k0 (by omega)
      rw [te] at t1 q3
      obtain ⟨v', ev, hv', vk⟩ : ∃ v', (if r.w ∈ (["put", "send", "say"] : List Str) then vl else v) = v' /\ (∀ x, r.a9 = some x -> ∃ i : Int, v' = .int i /\ 0 <= i /\ i <= 999) /\ (v' = .non ∨ ∃ i, v' = .int i) := by
        refine ⟨_, rfl, ?_⟩;split
        . rename_i z;have hp : r.a9 = none := by
            rcases kd with ⟨_, _, hp⟩ | ⟨_, _, hp⟩ | ⟨⟨_, n2⟩, _⟩
            . exact hp
            . exact hp
            . exact absurd z n2
          exact ⟨(λx q => by rw [hp] at q; exact nomatch q), nv⟩
        . refine ⟨v1, ?_⟩;cases hp : r.a9 with
          | none => exact .inl (v2 hp)
          | some x => obtain ⟨i, q, _⟩ := v1 x hp; exact .inr ⟨i, q⟩
      let M5 : List PV := [.non, .tup [.int 0, .int 1], .int 5, .str "x", .ref (g.length + (J.length + 1) + 1 + 1)]
      obtain ⟨c, c0, c1, ec⟩ := aX T (k + 9) (g ++ .lst zs :: (J ++ [.lst [.int 1], .lst M5])) hn o (k := k1) 5 (by omega) (by omega) (by decide) (by decide)
      obtain ⟨m, mm, em⟩ := yA (xs := M5) c0 (by simpa [M5] using c1)
      have sn := hs.next hM hr e hv'
      have b1 : ∀ h, run pg (k + 11) "_law_behind" [au rs, ao s, v'] h = _ := λh => jc T k h hL hr hs.ok hs.yr (Nat.le_trans hs.len lM) e ho hv'
      have hz2 : zs.length < 16777216 := by omega
      have mk : LM (g.length + 3) (J ++ [.lst [.int 1], .lst M5]) m := by
        simp only [M5, List.mem_cons, List.not_mem_nil, or_false] at mm;rcases mm with h | h | h | h | h
        . exact .inl h
        . exact .inr (.inl h)
        . exact .inr (.inr (.inl h))
        . exact .inr (.inr (.inr (.inl h)))
        . exact .inr (.inr (.inr (.inr ⟨J.length, by rw [h]; congr 1; omega, by rw [List.getElem?_append_right (Nat.le_refl _), Nat.sub_self]; rfl⟩)))
      have lk : Lk (g.length + 3) (J ++ [.lst [.int 1], .lst M5]) (.tup [.str r.w, .str t, v', m]) := ⟨r.w, t, v', m, rfl, O8 r, tk, vk, mk⟩
      obtain ⟨k', zs', J', a1, a2, a3, a4, a5⟩ := ih (aW rs 200 (after s v' r)) (k1 + 1) (zs ++ [.tup [.str r.w, .str t, v', m]]) (J ++ [.lst [.int 1], .lst M5]) (some x) (some (.tup [.str r.w, .str t, vl])) (some v') (some m) sn (by omega) (by omega) (by simp only [List.length_append, List.length_cons, List.length_nil]; omega) (λz mz => by
        rcases List.mem_append.mp mz with mz | mz
        . exact (hz z mz).more _
        . rw [List.mem_singleton.mp mz]; exact lk)
      refine ⟨k', zs', J', by omega, by rw [List.length_cons]; omega, by simp only [List.length_append, List.length_cons, List.length_nil] at a3 ⊢; omega, a4, ?_⟩
      have st : bW (gN 4) KU (run pg (k + 11)) x [some (.ref 1), some (au rs), some (ao s), some (.ref (g.length + 1 + 1)), u4, u5, u6, u7] (aI ns :: aF kk o :: (g ++ .lst zs :: J)) = .ok (.nx [some (.ref 1), some (au rs), some (ao (aW rs 200 (after s v' r))), some (.ref (g.length + 1 + 1)), some x, some (.tup [.str r.w, .str t, vl]), some v', some m]) (aI ns :: aF (k1 + 1) o :: (g ++ .lst (zs ++ [.tup [.str r.w, .str t, v', m]]) :: (J ++ [.lst [.int 1], .lst M5]))) := by
        have kv : ∀ h, K8 (run pg (k + 11)) [some (.ref 1), some (au rs), some (ao s), some (.ref (g.length + 1 + 1)), some x, some (.tup [.str r.w, .str t, vl]), some v, u7] h = .ok (.nx [some (.ref 1), some (au rs), some (ao s), some (.ref (g.length + 1 + 1)), some x, some (.tup [.str r.w, .str t, vl]), some v', u7]) h := λh => by
          by_cases z : r.w ∈ (["put", "send", "say"] : List Str)
          . rw [if_pos z] at ev; subst ev;simp? (disch := omega) only [K8, yq, z]
          . rw [if_neg z] at ev; subst ev;simp? (disch := omega) only [K8, yq, z]
        simp? (disch := omega) only [KU, M5, t1, q3, kv, ec, em, xb hz2, b1]
      rw [ft, st, dU, cB]
      exact a5
theorem yN (k:Nat) {ns:List Int} (hn:ns.length<=63) {L M:List Str} (hL:L.length<=20) {rs:List Rw} (hr: ∀ r∈rs,cO L rs.length r) (hm: ∀ r∈rs,jY r) (hM:jk M rs) (lM:M.length<=60) (o:Option Int) (g:PH) {s:aR} (hs:p8 L M rs s) (kk:Int) (k0:0<=kk) (k9:kk+300<=1000000) :
  ∃ (k':Int) (zs:List PV) (J:PH),kk<=k'∧k'<=kk+200∧zs.length<=12∧(∀ z∈zs,Lk (g.length+3) J z) ∧
   run pg (k+12) "_law_looks" [.ref 1,au rs,ao s] (aI ns::aF kk o::g)= .ok (.ref (g.length+1+1)) (aI ns::aF k' o::(g++ .lst zs::J)):=by
 obtain⟨c,c0,c1,ec⟩:=aX T (k+9) (g++[.lst []]) hn o (k:=kk) 12 k0 (by omega) (by decide) (by decide);have lr:(bq 0 c.toNat).length=c.toNat:=by unfold bq;simp
 obtain⟨k',zs,J,a1,a2,a3,a4,a5⟩:=uH T k hn hL hr hm hM lM (bq 0 c.toNat) o g (bq 0 c.toNat) s (kk+1) [] [] none none none none hs (by omega) (by omega) (by rw[lr,List.length_nil];omega) (λz m=>nomatch m);rw[lr] at a2 a3;refine⟨k',zs,J,by omega,by omega,by rw[List.length_nil] at a3;omega,a4,?_⟩;rw[run_eq T.qA rfl];unfold KU K8 at a5;rcases a5 with a5 | ⟨s',v4,v5,v6,v7,a5⟩
 . simp? [cW,eU,ec,a5];exact gX rfl
 . simp? [cW,eU,ec,a5];exact gX rfl
end
noncomputable def P7(b:Nat)(J:PH)(y:PV):Prop:=(∃ a b' c m:PV,y= .tup [a,b',c,m]/\ja a/\(ja b'\/b'= .tup [.str "a"])/\df c)\/(y= .non\/(∃ i,y= .int i)\/(∃ x,y= .str x)\/(∃ p,y= .bl p)\/ ∃ xs:List PV,y= .tup xs/\ ¬ (xs.length:Int)=4) \/
 ∃(i:Nat)(q:PO),y= .ref (b+i)/\J[i]?=some q/\((∃ xs,q= .lst xs)\/ ∃ kvs,q= .dct kvs)
theorem iZ{ns:List Int}{k k':Int}{o o':Option Int}{g G:PH}(v:PV):P3.settle (aI ns::aF k o::g) v (aI ns::aF k' o'::(g++G))= .ok v (aI ns::aF k' o'::(g++if v.flat=true then[] else G)):=by
 cases hv:v.flat with
 | true=>rw[c7 hv,if_pos rfl,List.append_nil]
 | false=>rw[gX hv];rfl
theorem Lk.c{v:PV}(h:v= .non\/ ∃ i,v= .int i):df v:=by
 rcases h with rfl | ⟨i,rfl⟩
 . exact .inl rfl
 . exact .inr (.inr (.inl ⟨i,rfl⟩))
noncomputable def OF:MS:=(az (aA (aa (ab 2) (aa (ab 3) (aa (ab 4) (aa (eC (.str "other")) ae))))))
noncomputable def Mh:MS:=(ai (bt (aq (ag cm (ab 6) (eC (.int 6)))) (az (ag ar (aH (aa (eC .non) (aa (eC (.int 5)) (aa (eC (.str "get")) (aa (aA ae) (aa jn (aa (eC (.bl true)) ae))))))) (ah "_law_pick" (aa (ab 0) (aa (eC (.int 6)) ae))))) bA) OF)
noncomputable def LY:MS:=(ai (bt (aq (ag cm (ab 6) (eC (.int 5)))) (az (ag ar (aH (aa (aH (aa (ab 2) (aa (ab 3) (aa (ab 4) (aa (ab 5) ae))))) (aa (aA (aa (ab 2) (aa (ab 3) (aa (ab 4) ae)))) (aa (ag aE (ab 1) (aA (aa (eC (.int 1)) ae))) ae)))) (ah "_law_pick" (aa (ab 0) (aa (eC (.int 3)) ae))))) bA) Mh)
noncomputable def KZ:MS:=(ai (bt (aq (ag Br (ab 6) (eC (.int 5)))) (ai (ak (aH (aa (eC .non) (aa (eC (.bl true)) (aa (eC (.bl false)) (aa (oH B5 (eC (.int 1))) (aa (eC (.int 0)) (aa (eC (.int 1)) (aa (eC (.int 2)) (aa (eC (.int 999)) (aa (eC (.int 1000)) (aa (eC (.str "0")) (aa (aA (aa (eC (.int 1)) ae)) (aa (ag xU (eC (.int 10)) (eC (.int 30))) ae))))))))))))) (gN 7)) (ai (bt (aq (ah "_law_whole" (aa (ab 4) (aa (eC (.int 0)) (aa (eC (.int 999)) ae))))) (ak (ag aE (ab 7) (aH (aa (ag aE (ab 4) (eC (.int 1))) (aa (ag nX (ab 4) (eC (.int 1))) (aa (ag eA (ag aE (ab 4) (eC (.int 500))) (eC (.int 1000))) ae))))) (gN 7)) bA) (az (aA (aa (ab 2) (aa (ab 3) (aa (ag ar (ab 7) (ah "_law_pick" (aa (ab 0) (aa (eB bN (aa (ab 7) ae)) ae)))) (aa (ab 5) ae)))))))) bA) LY)
noncomputable def Nj:MS:=(ai (bt (aq (ag cm (ab 6) (eC (.int 1)))) (az (aA (aa (ab 2) (aa (ag ar (aH (aa (eC (.str "a")) (aa (eC (.str "")) (aa (eC (.str "lets")) (aa (eC .non) (aa (eC (.int 5)) (aa (aA (aa (eC (.str "a")) ae)) ae))))))) (ah "_law_pick" (aa (ab 0) (aa (eC (.int 6)) ae)))) (aa (ab 4) (aa (ab 5) ae)))))) bA) KZ)
noncomputable def Nd:MS:=(ai (bt (aq (ag cm (ab 6) (eC (.int 0)))) (az (aA (aa (ag ar (aH (aa (eC (.str "get")) (aa (eC (.str "put")) (aa (eC (.str "take")) (aa (eC (.str "free")) (aa (eC (.str "say")) (aa (eC (.str "hear")) (aa (eC (.str "")) (aa (eC .non) (aa (eC (.int 5)) ae)))))))))) (ah "_law_pick" (aa (ab 0) (aa (eC (.int 9)) ae)))) (aa (ab 3) (aa (ab 4) (aa (ab 5) ae)))))) bA) Nj)
section
variable{pg:Tb}(T:cP pg)
include T
theorem DC(j:Nat){ns:List Int}(hn:ns.length<=63)(w t:Str){v m:PV}(hv:v= .non\/ ∃ i,v= .int i)(kk:Int)(o:Option Int)(g:PH)(kp:0<=kk)(k9:kk+10<=1000000) :
  ∃(y:PV)(k':Int)(J:PH),kk<=k'/\k'<=kk+2/\P7 (g.length+2) J y/\run pg (j+3) "_law_bent" [.ref 1,.tup [.str w,.str t,v,m]] (aI ns::aF kk o::g)= .ok y (aI ns::aF k' o::(g++J)):=by
 have tw: ∀ e h,xl (BU 4 (aG (gN 2) (aG (gN 3) (aG (gN 4) (aG (gN 5) dA))))) e (.tup [.str w,.str t,v,m]) h=xl (gT 4 (aG (gN 2) (aG (gN 3) (aG (gN 4) (aG (gN 5) dA))))) e (.tup [.str w,.str t,v,m]) h:=λe h=>rfl;have A0: ∀ x:Str,ja (.str x):=λx=> .inl ⟨x,rfl⟩;have hc:=Lk.c hv;obtain⟨c,c0,c9,ec⟩:=aX T j g hn o (k:=kk) 8 kp (by omega) (by decide) (by decide);have pk: ∀(G:List PV)(X:PH),0 < G.length->G.length<=100-> ∃ d x,x∈G/\eP G d=some x/\run pg (j+2) "_law_pick" [.ref 1,.int G.length] (aI ns::aF (kk+1) o::(g++X))= .ok (.int d) (aI ns::aF (kk+1+1) o::(g++X)):=λG X l0 l9=>by
  obtain⟨d,d0,d9,ed⟩:=aX T j (g++X) hn o (k:=kk+1) G.length (by omega) (by omega) (by omega) (by omega);obtain⟨x,xm,ex⟩:=yA d0 d9;exact⟨d,x,xm,ex,ed⟩
 have bb:ib=ai (ak (ab 1) (BU 4 (aG (gN 2) (aG (gN 3) (aG (gN 4) (aG (gN 5) dA)))))) (ai (ak (ah "_law_pick" (aa (ab 0) (aa (eC (.int 8)) ae))) (gN 6)) Nd):=rfl;obtain⟨E,hE⟩: ∃ E:ax,E=[some (.ref 1),some (.tup [.str w,.str t,v,m]),some (.str w),some (.str t),some v,some m,some (.int c),none]:=⟨_,rfl⟩
 have pre:run pg (j+3) "_law_bent" [.ref 1,.tup [.str w,.str t,v,m]] (aI ns::aF kk o::g)=fin (aI ns::aF kk o::g) (Nd (run pg (j+2)) E (aI ns::aF (kk+1) o::g)):=by
  rw[run_eq T.sr rfl];simp? [eE,bb,tw,ec,hE]
 have k0: ¬ c=0->Nd (run pg (j+2)) E (aI ns::aF (kk+1) o::g)=Nj (run pg (j+2)) E (aI ns::aF (kk+1) o::g):=λz=>by rw[hE];simp? [Nd,z]
 have k1: ¬ c=1->Nj (run pg (j+2)) E (aI ns::aF (kk+1) o::g)=KZ (run pg (j+2)) E (aI ns::aF (kk+1) o::g):=λz=>by rw[hE];simp? [Nj,z]
 have k2: ¬ c < 5->KZ (run pg (j+2)) E (aI ns::aF (kk+1) o::g)=LY (run pg (j+2)) E (aI ns::aF (kk+1) o::g):=λz=>by rw[hE];simp? [KZ,z]
 have k5: ¬ c=5->LY (run pg (j+2)) E (aI ns::aF (kk+1) o::g)=Mh (run pg (j+2)) E (aI ns::aF (kk+1) o::g):=λz=>by rw[hE];simp? [LY,z]
 have k6: ¬ c=6->Mh (run pg (j+2)) E (aI ns::aF (kk+1) o::g)=OF (run pg (j+2)) E (aI ns::aF (kk+1) o::g):=λz=>by rw[hE];simp? [Mh,z]
 by_cases z0:c=0
 . subst z0
   let G:List PV:=[.str "get",.str "put",.str "take",.str "free",.str "say",.str "hear",.str "",.non,.int 5]
   obtain⟨d,x,xm,ex,ed⟩:=pk G [.lst G] (by decide) (by decide);have ed':run pg (j+2) "_law_pick" [.ref 1,.int 9] (aI ns::aF (kk+1) o::(g++[.lst G]))=_:=ed;refine⟨.tup [x,.str t,v,m],kk+1+1,(if (.tup [x,.str t,v,m]:PV).flat=true then[] else[.lst G]),by omega,by omega,.inl ⟨_,_,_,_,rfl,?_,.inl (A0 _),hc⟩,?_⟩
   . simp only[G,List.mem_cons,List.not_mem_nil,or_false] at xm;rcases xm with h | h | h | h | h | h | h | h | h<;>subst h<;>first | exact .inl ⟨_,rfl⟩ | exact .inr (.inl rfl) | exact .inr (.inr ⟨_,rfl⟩)
   . rw[pre,hE];simp? [Nd,G,ed',ex];exact iZ _
 by_cases z1:c=1
 . subst z1
   let G:List PV:=[.str "a",.str "",.str "lets",.non,.int 5,.tup [.str "a"]]
   obtain⟨d,x,xm,ex,ed⟩:=pk G [.lst G] (by decide) (by decide);have ed':run pg (j+2) "_law_pick" [.ref 1,.int 6] (aI ns::aF (kk+1) o::(g++[.lst G]))=_:=ed;refine⟨.tup [.str w,x,v,m],kk+1+1,(if (.tup [.str w,x,v,m]:PV).flat=true then[] else[.lst G]),by omega,by omega,.inl ⟨_,_,_,_,rfl,A0 _,?_,hc⟩,?_⟩
   . simp only[G,List.mem_cons,List.not_mem_nil,or_false] at xm;rcases xm with h | h | h | h | h | h<;>subst h<;>first | exact .inl (.inl ⟨_,rfl⟩) | exact .inl (.inr (.inl rfl)) | exact .inl (.inr (.inr ⟨_,rfl⟩)) | exact .inr rfl
   . rw[pre,k0 (by decide),hE];simp? [Nj,G,ed',ex];exact iZ _
 by_cases z2:c < 5
 . let G:List PV:=[.non,.bl true,.bl false,.int (-1),.int 0,.int 1,.int 2,.int 999,.int 1000,.str "0",.tup [.int 1],.int (10 ^ 30)]
   have hG: ∀ x∈G,df x:=λx xm=>by
    simp only[G,List.mem_cons,List.not_mem_nil,or_false] at xm;rcases xm with h | h | h | h | h | h | h | h | h | h | h | h<;>subst h<;>first | exact .inl rfl | exact .inr (.inl ⟨_,rfl⟩) | exact .inr (.inr (.inl ⟨_,rfl⟩)) | exact .inr (.inr (.inr (.inl ⟨_,rfl⟩))) | exact .inr (.inr (.inr (.inr rfl)))
   have lw:=kL T (j+1) (aI ns::aF (kk+1) o::(g++[.lst G])) hc 999;cases zb:wd 999 v with
   | false =>
    rw[zb] at lw
    obtain⟨d,x,xm,ex,ed⟩:=pk G [.lst G] (by decide) (by decide)
    refine⟨.tup [.str w,.str t,x,m],kk+1+1,(if (.tup [.str w,.str t,x,m]:PV).flat=true then[] else[.lst G]),by omega,by omega,.inl ⟨_,_,_,_,rfl,A0 _,.inl (A0 _),hG x xm⟩,?_⟩
    rw[pre,k0 z0,k1 z1,hE]
    simp only[G,List.length_cons,List.length_nil] at lw ed ex
    simp? [KZ,z2,lw,ed,ex]
    exact iZ _
   | true =>
    rw[zb] at lw
    obtain⟨i,rfl⟩: ∃ i,v= .int i:=by
     rcases hv with rfl | h
     . exact nomatch zb
     . exact h
    let D:List PV:=[.int (i+1),.int (i - 1),.int ((i+500) % 1000)]
    obtain⟨d,x,xm,ex,ed⟩:=pk (G++D) [.lst G,.lst D,.lst (G++D)] (by simp[G,D]) (by simp[G,D])
    have ad:aE (.ref (g.length+1+1)) (.ref (g.length+(0+1)+1+1)) (aI ns::aF (kk+1) o::(g++[.lst G,.lst D]))= .ok (.ref (g.length+(0+1+1)+1+1)) (aI ns::aF (kk+1) o::(g++[.lst G,.lst D,.lst (G++D)])):=by
     rw[gS (xs:=G) (ys:=D) (by rw[List.getElem?_cons_succ,List.getElem?_cons_succ,aY]) (by rw[List.getElem?_cons_succ,List.getElem?_cons_succ,aJ];rfl) (by simp[G,D])];simp
    refine⟨.tup [.str w,.str t,x,m],kk+1+1,(if (.tup [.str w,.str t,x,m]:PV).flat=true then[] else[.lst G,.lst D,.lst (G++D)]),by omega,by omega,.inl ⟨_,_,_,_,rfl,A0 _,.inl (A0 _),?_⟩,?_⟩
    . rcases List.mem_append.mp xm with xm | xm
      . exact hG x xm
      . simp only[D,List.mem_cons,List.not_mem_nil,or_false] at xm;rcases xm with h | h | h<;>subst h<;>exact .inr (.inr (.inl ⟨_,rfl⟩))
    . rw[pre,k0 z0,k1 z1,hE];simp only[G,D,List.cons_append,List.nil_append,List.length_cons,List.length_nil] at lw ed ex ad;simp? [KZ,z2,lw,ad,ed,ex];exact iZ _
 by_cases z5:c=5
 . subst z5;have a5: ∀ h,aE (.tup [.str w,.str t,v,m]) (.tup [.int 1]) h= .ok (.tup [.str w,.str t,v,m,.int 1]) h:=λh=>vW (by simp)
   let G:List PV:=[.ref (g.length+1+1),.tup [.str w,.str t,v],.tup [.str w,.str t,v,m,.int 1]]
   obtain⟨d,x,xm,ex,ed⟩:=pk G [.lst [.str w,.str t,v,m],.lst G] (by simp[G]) (by simp[G]);have ed':run pg (j+2) "_law_pick" [.ref 1,.int 3] (aI ns::aF (kk+1) o::(g++[.lst [.str w,.str t,v,m],.lst G]))=_:=ed;refine⟨x,kk+1+1,(if (x:PV).flat=true then[] else[.lst [.str w,.str t,v,m],.lst G]),by omega,by omega,?_,?_⟩
   rotate_left
   . rw[pre,k0 (by decide),k1 (by decide),k2 (by decide),hE];simp? [LY,a5,G,ed',ex];exact iZ _
   . simp only[G,List.mem_cons,List.not_mem_nil,or_false] at xm;rcases xm with h | h | h<;>subst h
     . exact .inr (.inr ⟨0,_,rfl,rfl,.inl ⟨_,rfl⟩⟩)
     . exact .inr (.inl (.inr (.inr (.inr (.inr ⟨_,rfl,by simp⟩)))))
     . exact .inr (.inl (.inr (.inr (.inr (.inr ⟨_,rfl,by simp⟩)))))
 by_cases z6:c=6
 . subst z6
   let G:List PV:=[.non,.int 5,.str "get",.tup [],.ref (g.length+1+1),.bl true]
   obtain⟨d,x,xm,ex,ed⟩:=pk G [.dct [],.lst G] (by simp[G]) (by simp[G]);have ed':run pg (j+2) "_law_pick" [.ref 1,.int 6] (aI ns::aF (kk+1) o::(g++[.dct [],.lst G]))=_:=ed;refine⟨x,kk+1+1,(if (x:PV).flat=true then[] else[.dct [],.lst G]),by omega,by omega,?_,?_⟩
   rotate_left
   . rw[pre,k0 (by decide),k1 (by decide),k2 (by decide),k5 (by decide),hE];simp? [Mh,G,ed',ex];exact iZ _
   . simp only[G,List.mem_cons,List.not_mem_nil,or_false] at xm;rcases xm with h | h | h | h | h | h<;>subst h
     . exact .inr (.inl (.inl rfl))
     . exact .inr (.inl (.inr (.inl ⟨_,rfl⟩)))
     . exact .inr (.inl (.inr (.inr (.inl ⟨_,rfl⟩))))
     . exact .inr (.inl (.inr (.inr (.inr (.inr ⟨_,rfl,by simp⟩)))))
     . exact .inr (.inr ⟨0,_,rfl,rfl,.inr ⟨_,rfl⟩⟩)
     . exact .inr (.inl (.inr (.inr (.inr (.inl ⟨_,rfl⟩)))))
 . refine⟨.tup [.str w,.str t,v,.str "other"],kk+1,[],by omega,by omega,.inl ⟨_,_,_,_,rfl,A0 _,.inl (A0 _),hc⟩,?_⟩;rw[List.append_nil,pre,k0 z0,k1 z1,k2 z2,k5 z5,k6 z6,hE];simp? [OF,List.map_nil];exact oh
end
noncomputable def OP(H:PH)(y:PV):Prop:= ∃(w t:Str)(v m:PV),y= .tup [.str w,.str t,v,m]/\PyData.strOk w=true/\PyData.strOk t=true/\(v= .non\/ ∃ i,v= .int i)/\(m= .non\/m= .tup [.int 0,.int 1]\/m= .int 5\/m= .str "x" \/ ∃ n,m= .ref n/\H[n]?=some (.lst [.int 1]))
theorem NQ{H:PH}{y:PV}(h:OP H y): ∃ d:PyData,hU (λj=>dat 5 H (.ref j)) y=some d/\d.canLay0=true:=by
 obtain⟨w,t,v,m,rfl,hw,ht,hv,hm⟩:=h;have x1:PyData.strOk (Str.ofString "x")=true:=by decide +kernel
 have dv: ∃ d:PyData,hU (λj=>dat 5 H (.ref j)) v=some d/\d.canLay0=true:=by
  rcases hv with rfl | ⟨i,rfl⟩
  . exact⟨_,rfl,rfl⟩
  . exact⟨_,rfl,rfl⟩
 have dm: ∃ d:PyData,hU (λj=>dat 5 H (.ref j)) m=some d/\d.canLay0=true:=by
  rcases hm with rfl | rfl | rfl | rfl | ⟨n,rfl,e⟩
  . exact⟨_,rfl,rfl⟩
  . exact⟨_,rfl,rfl⟩
  . exact⟨_,rfl,rfl⟩
  . exact⟨_,rfl,by simp[PyData.canLay0,x1]⟩
  . refine⟨.list [.int 1],?_,rfl⟩;show dat 5 H (.ref n)=_;unfold dat;simp only[hU,e,cA,Option.map_some]
 obtain⟨d1,e1,c1⟩:=dv;obtain⟨d2,e2,c2⟩:=dm;refine⟨.tuple [.str w,.str t,d1,d2],?_,?_⟩
 . simp only[hU,cA,e1,e2,Option.map_some]
 . simp[PyData.canLay0,PyData.canLayAll0,hw,ht,c1,c2]
theorem yM{H:PH}: ∀ ys:List PV,(∀ y∈ys,OP H y)-> ∃ ds:List PyData,cA (λj=>dat 5 H (.ref j)) ys=some ds/\PyData.canLayAll0 ds=true/\ds.length=ys.length
 | [],_=>⟨[],rfl,rfl,rfl⟩
 | y::ys,h=>by
  obtain⟨d,a1,a2⟩:=NQ (h y List.mem_cons_self);obtain⟨ds,b1,b2,b3⟩:=yM ys λz m=>h z (List.mem_cons_of_mem _ m);exact⟨d::ds,by rw[cA,a1,b1],by rw[PyData.canLayAll0,a2,b2];rfl,by rw[List.length_cons,List.length_cons,b3]⟩
theorem OA{H:PH}{n m:Nat}{ys:List PV}(e1:H[n]?=some (.lst ys))(e2:H[m]?=some (.lst []))(hy: ∀ y∈ys,OP H y):fX (.ref n) (.ref m) H= .ok (.bl (!decide (ys=[]))) H:=by
 obtain⟨ds,b1,b2,b3⟩:=yM ys hy;have d1:dat 6 H (.ref n)=some (.list ds):=by unfold dat;simp only[hU,e1,b1,Option.map_some]
 have d2:dat 6 H (.ref m)=some (.list []):=by unfold dat;simp only[hU,e2,cA,Option.map_some]
 have sc:gZ (.ref n) (.ref m)=false:=rfl;have al:alike (.ref n) (.ref m) H=some (decide (ys=[])):=by
  unfold alike;rw[sc,d1,d2];have c1:(PyData.list ds).canLay0=true:=by rw[PyData.canLay0];exact b2
  have c2:(PyData.list []).canLay0=true:=rfl;have c3:min (PyData.list ds).depth (PyData.list []).depth<=64:=Nat.le_trans (Nat.min_le_right _ _) (by decide);simp only[if_false,Bool.false_eq_true,c1,c2,c3,and_self,if_true];cases ds<;>cases ys<;>first | rfl | exact nomatch b3
 have nd:eg H (.ref n)=false:=by unfold eg;simp only[e1]
 unfold fX;rw[al,nd];rfl
noncomputable def EG(G J:PH)(n:Nat)(q:PO):Prop:=(∃ i,n=i+2/\G[i]?=some q)\/ ∃ i,n=G.length+3+i/\J[i]?=some q
theorem EG.get{G J:PH}{n:Nat}{q:PO}(h:EG G J n q)(a b x:PO):(a::b::(G++x::J))[n]?=some q:=by
 rcases h with⟨i,rfl,e⟩ | ⟨i,rfl,e⟩
 . rw[List.getElem?_cons_succ,List.getElem?_cons_succ,List.getElem?_append_left (List.getElem?_eq_some_iff.mp e).1];exact e
 . rw[show G.length+3+i=G.length+(i+1)+1+1 by omega,List.getElem?_cons_succ,List.getElem?_cons_succ,List.getElem?_append_right (by omega),show G.length+(i+1) - G.length=i+1 by omega,List.getElem?_cons_succ];exact e
theorem EG.more{G J:PH}{n:Nat}{q:PO}(h:EG G J n q)(K:PH):EG G (J++K) n q:=by
 rcases h with h | ⟨i,h,e⟩
 . exact .inl h
 . exact .inr ⟨i,h,by rw[List.getElem?_append_left (List.getElem?_eq_some_iff.mp e).1];exact e⟩
noncomputable def Dk(G J:PH)(y:PV):Prop:=(∃ a b c m:PV,y= .tup [a,b,c,m]/\ja a/\(ja b\/b= .tup [.str "a"])/\df c)\/(y= .non\/(∃ i,y= .int i)\/(∃ x,y= .str x)\/(∃ p,y= .bl p)\/ ∃ xs:List PV,y= .tup xs/\ ¬ (xs.length:Int)=4) \/
 ∃(n:Nat)(q:PO),y= .ref n/\EG G J n q/\((∃ xs,q= .lst xs)\/ ∃ kvs,q= .dct kvs)
theorem Dk.more{G J:PH}{y:PV}(h:Dk G J y)(K:PH):Dk G (J++K) y:=by
 rcases h with h | h | ⟨n,q,h1,h2,h3⟩
 . exact .inl h
 . exact .inr (.inl h)
 . exact .inr (.inr ⟨n,q,h1,h2.more K,h3⟩)
theorem Dk.NC{G J:PH}{y:PV}(h:Dk G J y)(a b x:PO):Thing (a::b::(G++x::J)) y:=by
 rcases h with h | (rfl | ⟨i,rfl⟩ | ⟨z,rfl⟩ | ⟨p,rfl⟩ | h) | ⟨n,q,rfl,h2,h3⟩
 . exact .inr h
 . exact .inl (.inl Hz)
 . exact .inl (.inl JJ)
 . exact .inl (.inl Ki)
 . exact .inl (.inl IA)
 . exact .inl (.inr h)
 . have e:=h2.get a b x;refine .inl (.inl ?_);rcases h3 with⟨xs,rfl⟩ | ⟨kvs,rfl⟩
   . unfold cu;simp only[tyP,e];rfl
   . unfold cu;simp only[tyP,e];rfl
theorem Lk.O9{b:Nat}{K:PH}{y:PV}(h:Lk b K y)(G J:PH):Dk G J y:=by
 obtain⟨w,t,v,m,rfl,_,_,hv,_⟩:=h;exact .inl ⟨_,_,_,_,rfl,.inl ⟨_,rfl⟩,.inl (.inl ⟨_,rfl⟩),Lk.c hv⟩
noncomputable def oq(G J:PH)(r:PV):Prop:= ∃(n:Nat)(ys:List PV),r= .ref n/\EG G J n (.lst ys)/\ys.length<=30/\ ∀ y∈ys,Dk G J y
theorem oq.more{G J:PH}{r:PV}(h:oq G J r)(K:PH):oq G (J++K) r:=by
 obtain⟨n,ys,h1,h2,h3,h4⟩:=h;exact⟨n,ys,h1,h2.more K,h3,λy m=>(h4 y m).more K⟩
noncomputable def O1:ME:=(ag aE (ag aE (jJ (ab 8) cn (cq (ab 11))) (aH (aa (ah "_law_bent" (aa (ab 1) (aa (ag ar (ab 8) (ab 11)) ae))) ae))) (jJ (ab 8) (cq (ag aE (ab 11) (eC (.int 1)))) cn))
section
variable{pg:Tb}(T:cP pg)
include T
theorem DF(j:Nat){ns:List Int}(hn:ns.length<=63){a:Nat}{zs:List PV}{W:PH}(ha:W[a]?=some (.lst zs))(hl:zs.length<=12){u:Nat}(hu:u < zs.length){b:Nat}{K:PH}(hz: ∀ z∈zs,Lk b K z)(kk:Int)(o:Option Int)(k0:0<=kk)(k9:kk+10<=1000000)(e0 e2 e3 e4 e5 e6 e7 e9 e10 e12:Option PV) :
  ∃(k':Int)(X:PH)(y:PV)(i:Nat),kk<=k'/\k'<=kk+2/\P7 (W.length+2) X y/\X[i]?=some (.lst (zs.take u++y::zs.drop (u+1))) /\
   O1 (run pg (j+3)) [e0,some (.ref 1),e2,e3,e4,e5,e6,e7,some (.ref (a+1+1)),e9,e10,some (.int u),e12] (aI ns::aF kk o::W)= .ok (.ref (W.length+i+1+1)) (aI ns::aF k' o::(W++X)):=by
 obtain⟨x,ex⟩: ∃ x,zs[u]?=some x:=⟨_,List.getElem?_eq_getElem hu⟩
 obtain⟨w,t,v,m,rfl,_,_,hv,_⟩:=hz x (List.mem_of_getElem? ex);obtain⟨y,k',J,q1,q2,q3,q4⟩:=DC T j hn w t (m:=m) hv kk o (W++[.lst (zs.take u)]) k0 k9;have al:a < W.length:=(List.getElem?_eq_some_iff.mp ha).1;have old: ∀ X,(W++X)[a]?=some (.lst zs):=λX=>by rw[List.getElem?_append_left al];exact ha
 have c1:dZ zs none (some (u:Int))=zs.take u:=by rw[P3.mO (by omega),Int.toNat_natCast]
 have c2:dZ zs (some ((u:Int)+1)) none=zs.drop (u+1):=by rw[P3.fF (by omega),show((u:Int)+1).toNat=u+1 by omega]
 have lt:(zs.take u).length<=12:=by rw[List.length_take];omega
 have ld:(zs.drop (u+1)).length<=12:=by rw[List.length_drop];omega
 let X1:PH:= .lst (zs.take u)::J
 let X2:PH:=X1++[.lst [y]]
 let X3:PH:=X2++[.lst (zs.take u++[y])]
 let X4:PH:=X3++[.lst (zs.drop (u+1))]
 let X5:PH:=X4++[.lst (zs.take u++y::zs.drop (u+1))]
 let E:ax:=[e0,some (.ref 1),e2,e3,e4,e5,e6,e7,some (.ref (a+1+1)),e9,e10,some (.int u),e12]
 have s1:jJ (ab 8) cn (cq (ab 11)) (run pg (j+3)) E (aI ns::aF kk o::W)= .ok (.ref (W.length+1+1)) (aI ns::aF kk o::(W++[.lst (zs.take u)])):=by
  simp? [E,ha,c1]
 have hX1:W++[.lst (zs.take u)]++J=W++X1:=by simp[X1]
 rw[hX1] at q4;have s2:aH (aa (ah "_law_bent" (aa (ab 1) (aa (ag ar (ab 8) (ab 11)) ae))) ae) (run pg (j+3)) E (aI ns::aF kk o::(W++[.lst (zs.take u)]))= .ok (.ref (W.length+X1.length+1+1)) (aI ns::aF k' o::(W++X2)):=by
  have ix:ar (.ref (a+1+1)) (.int u) (aI ns::aF kk o::(W++[.lst (zs.take u)]))= .ok (.tup [.str w,.str t,v,m]) (aI ns::aF kk o::(W++[.lst (zs.take u)])):=by
   have e:(aI ns::aF kk o::(W++[.lst (zs.take u)]))[a+1+1]?=some (.lst zs):=old _;rw[CK,e,CD,P3.dJ rfl ex];rfl
  simp? [E,ix,q4];simp[X2]
 have add: ∀(X:PH)(n m:Nat)(xs ys:List PV),(W++X)[n]?=some (.lst xs)->(W++X)[m]?=some (.lst ys)->xs.length+ys.length<=1000->aE (.ref (n+1+1)) (.ref (m+1+1)) (aI ns::aF k' o::(W++X))= .ok (.ref (W.length+X.length+1+1)) (aI ns::aF k' o::(W++(X++[.lst (xs++ys)]))):=λX n m xs ys h1 h2 h3=>by
  rw[gS (h:=aI ns::aF k' o::(W++X)) (n:=n+1+1) (m:=m+1+1) (xs:=xs) (ys:=ys) h1 h2 (by omega)];simp
 have at_: ∀(X:PH)(i:Nat),(W++X)[W.length+i]?=X[i]?:=λX i=>by rw[List.getElem?_append_right (by omega),show W.length+i - W.length=i by omega]
 have new: ∀(X:PH)(q:PO),(X++[q])[X.length]?=some q:=λX q=>by rw[List.getElem?_append_right (Nat.le_refl _),Nat.sub_self];rfl
 have s3:=add X2 (W.length+0) (W.length+X1.length) (zs.take u) [y] (by rw[at_];rfl) (by rw[at_];exact new X1 _) (by simp only[List.length_cons,List.length_nil];omega);have s4:jJ (ab 8) (cq (ag aE (ab 11) (eC (.int 1)))) cn (run pg (j+3)) E (aI ns::aF k' o::(W++X3))= .ok (.ref (W.length+X3.length+1+1)) (aI ns::aF k' o::(W++X4)):=by
  simp? [E,old,c2];simp[X4]
 have s5:=add X4 (W.length+X2.length) (W.length+X3.length) (zs.take u++[y]) (zs.drop (u+1)) (by
  rw[at_,show X4=X2++[.lst (zs.take u++[y])]++[.lst (zs.drop (u+1))] from rfl,List.getElem?_append_left (by simp)];exact new X2 _) (by rw[at_];exact new X3 _) (by simp only[List.length_append,List.length_cons,List.length_nil];omega)
 rw[show zs.take u++[y]++zs.drop (u+1)=zs.take u++y::zs.drop (u+1) by simp] at s5;refine⟨k',X5,y,X4.length,q1,q2,?_,new X4 _,?_⟩
 . rcases q3 with q | q | ⟨i,q,h1,h2,h3⟩
   . exact .inl q
   . exact .inr (.inl q)
   . refine .inr (.inr ⟨i+1,q,?_,?_,h3⟩)
     . rw[h1];congr 1;simp only[List.length_append,List.length_cons,List.length_nil];omega
     . have:X5= .lst (zs.take u)::(J++[.lst [y],.lst (zs.take u++[y]),.lst (zs.drop (u+1)),.lst (zs.take u++y::zs.drop (u+1))]):=by simp[X5,X4,X3,X2,X1]
       rw[this,List.getElem?_cons_succ,List.getElem?_append_left (List.getElem?_eq_some_iff.mp h2).1];exact h2
 . show(((jJ _ _ _ (run pg (j+3)) E (aI ns::aF kk o::W)).bind _).bind _)=_;rw[s1,dU];show((RV.bind (aH _ (run pg (j+3)) E (aI ns::aF kk o::(W++[.lst (zs.take u)]))) _).bind _)=_;rw[s2,dU];show RV.bind (aE (.ref (W.length+0+1+1)) (.ref (W.length+X1.length+1+1)) (aI ns::aF k' o::(W++X2))) _=_;rw[s3,dU];show RV.bind (jJ _ _ _ (run pg (j+3)) E (aI ns::aF k' o::(W++X3))) _=_;rw[s4,dU];exact s5
end
noncomputable def room:Nat:=20
noncomputable def K3:ME:=(aH (aa (ab 8) (aa (ag aE (ab 8) (aH (aa (aA (aa (eC (.str "clock")) (aa (eC (.str "")) (aa (eC (.int 1)) (aa (eC .non) ae))))) ae))) (aa (ag aE (ab 8) (jJ (ab 8) cn (cq (eC (.int 1))))) (aa (jJ (ab 8) (cq (eC (.int 1))) cn) ae)))))
noncomputable def L8:MS:=(ai (ak (ah "_law_pick" (aa (ab 1) (aa (eB bN (aa (ab 8) ae)) ae))) (gN 11)) (fT (eM cV eG (ab 9) (aa O1 ae))))
noncomputable def MF:MS:=(bt (oP (aq (ah "_law_same" (aa (ah "goes_so" (aa (ab 4) (aa (ab 5) (aa (ab 7) (aa (eB bC (aa (ab 12) ae)) ae))))) (aa (ah "_law_goes" (aa (ab 6) (aa (ab 7) (aa (ab 12) ae)))) ae))))) (az (eC (.bl false))) bA)
noncomputable def K9:MS:=(gp (dy (aa (ag g8 (eC (.int 3)) (eB Al (aa (ag fX (ab 8) (aH ae)) ae))) ae)) (gN 10) L8)
noncomputable def Oa:MS:=(gp (mK (ab 9)) (gN 12) MF)
noncomputable def yt:PV:= .tup [.str "clock",.str "",.int 1,.non]
section
variable{pg:Tb}(T:cP pg)
include T
omit T in
theorem Ca{ns:List Int}{a:Nat}{zs:List PV}{B:PH}(ha:B[a]?=some (.lst zs))(hl:zs.length<=12)(kk:Int)(o:Option Int)(c:CF)(e0 e1 e2 e3 e4 e5 e6 e7 e9 e10 e11 e12:Option PV) :
  K3 c [e0,e1,e2,e3,e4,e5,e6,e7,some (.ref (a+1+1)),e9,e10,e11,e12] (aI ns::aF kk o::B)= .ok (.ref (B.length+5+1+1)) (aI ns::aF kk o::(B++[.lst [yt],.lst (zs++[yt]),.lst (zs.take 1),.lst (zs++zs.take 1),.lst (zs.drop 1),.lst [.ref (a+1+1),.ref (B.length+1+1+1),.ref (B.length+3+1+1),.ref (B.length+4+1+1)]])):=by
 have al:a < B.length:=(List.getElem?_eq_some_iff.mp ha).1;have old: ∀ X,(B++X)[a]?=some (.lst zs):=λX=>by rw[List.getElem?_append_left al];exact ha
 have c1:dZ zs none (some 1)=zs.take 1:=by rw[P3.mO (by omega)];rfl
 have c2:dZ zs (some 1) none=zs.drop 1:=by rw[P3.fF (by omega)];rfl
 have lt:(zs.take 1).length<=12:=by rw[List.length_take];omega
 have add: ∀(X:PH)(m:Nat)(ys:List PV),(B++X)[m]?=some (.lst ys)->ys.length<=1000->aE (.ref (a+1+1)) (.ref (m+1+1)) (aI ns::aF kk o::(B++X))= .ok (.ref (B.length+X.length+1+1)) (aI ns::aF kk o::(B++(X++[.lst (zs++ys)]))):=λX m ys h2 h3=>by
  rw[gS (h:=aI ns::aF kk o::(B++X)) (n:=a+1+1) (m:=m+1+1) (xs:=zs) (ys:=ys) (old X) h2 (by omega)];simp
 have s1:=add [.lst [yt]] B.length [yt] aY (by simp);have s2:=add [.lst [yt],.lst (zs++[yt]),.lst (zs.take 1)] (B.length+2) (zs.take 1) (by rw[aJ];rfl) (by omega);simp only[List.cons_append,List.nil_append,yt,List.length_cons,List.length_nil] at s1 s2;have n1:B.length+(0+1+1)=B.length+2:=rfl;simp? [K3,yt,old,c1,c2,s1,s2,n1]
theorem xi(j:Nat){ns:List Int}(hn:ns.length<=63){a:Nat}{zs:List PV}{G:PH}(ha:G[a]?=some (.lst zs))(hl:zs.length<=12)(zp:0 < zs.length){b:Nat}{K:PH}(hz: ∀ z∈zs,Lk b K z)(o:Option Int)(xs0:List PV)(e0 e2 e3 e4 e5 e6 e7 e12:Option PV) :
  ∀(av:List PV)(kk:Int)(refs:List PV)(J:PH)(e10 e11:Option PV),0<=kk->kk+3*av.length+20<=1000000->refs.length+av.length<=1000->(∀ r∈refs,oq G J r) ->
  ∃(k':Int)(refs':List PV)(J':PH)(v10 v11:Option PV),kk<=k'/\k'<=kk+3*av.length/\(∀ r∈refs',oq G J' r) /\
   bF ⟨none,xs0⟩ (bW (gN 10) L8 (run pg (j+3))) av [e0,some (.ref 1),e2,e3,e4,e5,e6,e7,some (.ref (a+1+1)),some (.ref (G.length+1+1)),e10,e11,e12] (aI ns::aF kk o::(G++ .lst refs::J))= .ok (.nx [e0,some (.ref 1),e2,e3,e4,e5,e6,e7,some (.ref (a+1+1)),some (.ref (G.length+1+1)),v10,v11,e12]) (aI ns::aF k' o::(G++ .lst refs'::J')):=by
 intro av
 induction av with
 | nil=>intro kk refs J e10 e11 _ _ _ hr;exact⟨kk,refs,J,e10,e11,by omega,by omega,hr,iu⟩
 | cons x av ih =>
  intro kk refs J e10 e11 k0 k9 hrl hr
  rw[List.length_cons] at k9 hrl
  have al:a < G.length:=(List.getElem?_eq_some_iff.mp ha).1
  have old: ∀ X,(G++X)[a]?=some (.lst zs):=λX=>by rw[List.getElem?_append_left al];exact ha
  obtain⟨w,w0,w9,ew⟩:=aX T (j+1) (G++ .lst refs::J) hn o (k:=kk) zs.length k0 (by omega) (by omega) (by omega)
  obtain⟨u,rfl⟩:=Int.eq_ofNat_of_zero_le w0
  obtain⟨k1,X,y,i,q1,q2,q3,q4,q5⟩:=DF T j hn (old (.lst refs::J)) hl (u:=u) (by omega) hz (kk+1) o (by omega) (by omega) e0 e2 e3 e4 e5 e6 e7 (some (.ref (G.length+1+1))) (some x) e12
  have lw:(G++PO.lst refs::J).length=G.length+1+J.length:=by simp only[List.length_append,List.length_cons];omega
  have nr:oq G (J++X) (.ref ((G++PO.lst refs::J).length+i+1+1)):=by
   refine⟨_,zs.take u++y::zs.drop (u+1),rfl,.inr ⟨J.length+i,by omega,by rw[List.getElem?_append_right (by omega),show J.length+i - J.length=i by omega];exact q4⟩,by simp only[List.length_append,List.length_cons,List.length_take,List.length_drop];omega,λz m=>?_⟩;rcases List.mem_append.mp m with m | m
   . exact(hz z (List.mem_of_mem_take m)).O9 _ _
   . rcases List.mem_cons.mp m with rfl | m
     . rcases q3 with q | q | ⟨i',q,h1,h2,h3⟩
       . exact .inl q
       . exact .inr (.inl q)
       . exact .inr (.inr ⟨_,q,h1,.inr ⟨J.length+i',by omega,by rw[List.getElem?_append_right (by omega),show J.length+i' - J.length=i' by omega];exact h2⟩,h3⟩)
     . exact(hz z (List.mem_of_mem_drop m)).O9 _ _
  obtain⟨k',refs',J',v10,v11,a1,a2,a3,a4⟩:=ih k1 (refs++[.ref ((G++PO.lst refs::J).length+i+1+1)]) (J++X) (some x) (some (.int u)) (by omega) (by omega) (by simp only[List.length_append,List.length_cons,List.length_nil];omega) (λr m=>by
   rcases List.mem_append.mp m with m | m
   . exact(hr r m).more X
   . rw[List.mem_singleton.mp m];exact nr)
  refine⟨k',refs',J',v10,v11,by omega,by rw[List.length_cons];omega,a3,?_⟩
  have hz2:refs.length < 16777216:=by omega
  rw[List.append_assoc,List.cons_append] at q5
  generalize (G++PO.lst refs::J).length+i+1+1=nn at q5 a4
  have st:bW (gN 10) L8 (run pg (j+3)) x [e0,some (.ref 1),e2,e3,e4,e5,e6,e7,some (.ref (a+1+1)),some (.ref (G.length+1+1)),e10,e11,e12] (aI ns::aF kk o::(G++ .lst refs::J))= .ok (.nx [e0,some (.ref 1),e2,e3,e4,e5,e6,e7,some (.ref (a+1+1)),some (.ref (G.length+1+1)),some x,some (.int u),e12]) (aI ns::aF k1 o::(G++ .lst (refs++[.ref nn])::(J++X))):=by
   simp? [L8,old,ew,q5,xb hz2]
  rw[ft,st,dU,cB]
  exact a4
theorem zG(k:Nat){L M:List Str}(hL:L.length<=20){p:PV}{n:Int}{rs:List Rw}(ha:fZ p n rs)(hr: ∀ r∈rs,cO L rs.length r)(hm: ∀ r∈rs,jY r)(hM:jk M rs)(lM:M.length<=60){S:aR}(hS:p8 L M rs S)(G J:PH)(A B C:PO){it:hW}(hf:it.fH (A::B::(G++C::J))=true)(e0 e1 e2 e3 e8 e9 e10 e11:Option PV) :
  ∀(refs:List PV)(e12:Option PV),(∀ r∈refs,oq G J r)-> ∃ v12:Option PV,
   bF it (bW (gN 12) MF (run pg (k+12))) refs [e0,e1,e2,e3,some p,some (.int n),some (au rs),some (ao S),e8,e9,e10,e11,e12] (A::B::(G++C::J))= .ok (.nx [e0,e1,e2,e3,some p,some (.int n),some (au rs),some (ao S),e8,e9,e10,e11,v12]) (A::B::(G++C::J)):=by
 intro refs
 induction refs with
 | nil=>intro e12 _;exact⟨e12,mE hf⟩
 | cons x refs ih =>
  intro e12 hx
  obtain⟨nT,ys,rfl,h2,h3,h4⟩:=hx x List.mem_cons_self
  have hT:=h2.get A B C
  obtain⟨c,g1,g2⟩:=both T k (A::B::(G++C::J)) hL ha hr hm hM lM hT (by omega) (λy m=>(h4 y m).NC A B C) hS
  obtain⟨v12,q⟩:=ih (some (.ref nT)) λr m=>hx r (List.mem_cons_of_mem _ m)
  refine⟨v12,?_⟩
  have tu:bC [.ref nT] (A::B::(G++C::J))= .ok (.tup ys) (A::B::(G++C::J)):=by rw[wq,hT,tJ]
  have sm:run pg (k+12) "_law_same" [.int c,.int c] (A::B::(G++C::J))= .ok (.bl true) (A::B::(G++C::J)):=by
   rw[BC T (k+11) _ (.inr (.inr (.inl ⟨_,rfl⟩))),eqB,decide_eq_true rfl]
  rw[iU hf]
  generalize A::B::(G++C::J)=H at g1 g2 tu sm q ⊢
  have st:bW (gN 12) MF (run pg (k+12)) (.ref nT) [e0,e1,e2,e3,some p,some (.int n),some (au rs),some (ao S),e8,e9,e10,e11,e12] H= .ok (.nx [e0,e1,e2,e3,some p,some (.int n),some (au rs),some (ao S),e8,e9,e10,e11,some (.ref nT)]) H:=by
   simp? [MF,tu,g1,g2,sm]
  rw[st,dU,cB]
  exact q
end
noncomputable def mD(rs:List Rw):List Str:=rs.filterMap λr=>match r with
 | .take l=>some l
 | _=>none
theorem AE(rs:List Rw)(M:List Str):jk (mD rs++M) rs:=λl m=>List.mem_append_left _ (List.mem_filterMap.mpr ⟨_,m,rfl⟩)
noncomputable def vZ(rest:MS):MS:=(ai (ak (ag ar (ab 2) (ag eA (ab 3) (eC (.int 2)))) (gN 4)) (ai (ak (ah "_law_pick" (aa (ab 1) (aa (eB bN (aa (ag ar (ab 4) (eC (.int 4))) ae)) ae))) (gN 5)) (ai (ak (ag ar (ag ar (ag ar (ab 4) (eC (.int 4))) (ab 5)) (eC (.int 1))) (gN 6)) (ai (ak (ah "_law_rested" (aa (ab 6) (aa (ah "_law_seat" (aa (ab 1) (aa (ab 4) (aa (ab 5) ae)))) ae))) (gN 7)) rest))))
noncomputable def lh:MS:=vZ (ai (ak (ah "_law_looks" (aa (ab 1) (aa (ab 6) (aa (ab 7) ae)))) (gN 8)) (ai (ak K3 (gN 9)) (ai K9 Oa)))
section
variable{pg:Tb}(T:cP pg)
include T
theorem J3(j:Nat){ns:List Int}(hn:ns.length<=63){gL J F G:PH}{zs:List PV}(hl:zs.length<=12)(hz: ∀ z∈zs,Lk (gL.length+3) J z)(hG:G=gL++ .lst zs::(J++F)){refs:List PV}(hr: ∀ r∈refs,oq G [] r)(rl:refs.length<=100)(kk:Int)(o:Option Int)(k0:0<=kk)(k9:kk+100<=1000000)(e0 e2 e3 e4 e5 e6 e7 e10 e11 e12:Option PV) :
  ∃(k':Int)(refs':List PV)(J':PH)(v10 v11:Option PV),kk<=k'/\k'<=kk+9/\(∀ r∈refs',oq G J' r) /\
   K9 (run pg (j+3)) [e0,some (.ref 1),e2,e3,e4,e5,e6,e7,some (.ref (gL.length+1+1)),some (.ref (G.length+1+1)),e10,e11,e12] (aI ns::aF kk o::(G++[.lst refs]))= .ok (.nx [e0,some (.ref 1),e2,e3,e4,e5,e6,e7,some (.ref (gL.length+1+1)),some (.ref (G.length+1+1)),v10,v11,e12]) (aI ns::aF k' o::(G++ .lst refs'::J')):=by
 have ga:G[gL.length]?=some (.lst zs):=by rw[hG];exact aY
 have ne:fX (.ref (gL.length+1+1)) (.ref (G.length+(0+1)+1+1)) (aI ns::aF kk o::(G++[.lst refs,.lst []]))= .ok (.bl (!decide (zs=[]))) (aI ns::aF kk o::(G++[.lst refs,.lst []])):=by
  refine OA (ys:=zs) ?_ ?_ λy m=>?_
  . rw[List.getElem?_cons_succ,List.getElem?_cons_succ,List.getElem?_append_left (List.getElem?_eq_some_iff.mp ga).1];exact ga
  . rw[List.getElem?_cons_succ,List.getElem?_cons_succ,aJ];rfl
  . obtain⟨w,t,v,m,h1,h2,h3,h4,h5⟩:=hz y m;refine⟨w,t,v,m,h1,h2,h3,h4,?_⟩;rcases h5 with h | h | h | h | ⟨i,h,e⟩
    . exact .inl h
    . exact .inr (.inl h)
    . exact .inr (.inr (.inl h))
    . exact .inr (.inr (.inr (.inl h)))
    . refine .inr (.inr (.inr (.inr ⟨_,h,?_⟩)));have:=EG.get (G:=gL) (J:=J++(F++[.lst refs,.lst []])) (n:=gL.length+3+i) (q:= .lst [.int 1]) (.inr ⟨i,rfl,by rw[List.getElem?_append_left (List.getElem?_eq_some_iff.mp e).1];exact e⟩) (aI ns) (aF kk o) (.lst zs);rw[hG,List.append_assoc,List.cons_append,List.append_assoc];exact this
 have hr': ∀ r∈refs,oq G [.lst []] r:=λr m=>(hr r m).more [.lst []];by_cases z:zs=[]
 . refine⟨kk,refs,[.lst []],e10,e11,by omega,by omega,hr',?_⟩;have r0:bq 0 0=[]:=rfl;rw[decide_eq_true z] at ne;simp? [K9,ne,r0,iu]
 . obtain⟨k',refs',J',v10,v11,a1,a2,a3,a4⟩:=xi T j hn ga hl (List.length_pos_iff.mpr z) hz o (bq 0 3) e0 e2 e3 e4 e5 e6 e7 e12 (bq 0 3) kk refs [.lst []] e10 e11 k0 (by simp only[show(bq 0 3).length=3 from rfl];omega) (by simp only[show(bq 0 3).length=3 from rfl];omega) hr';rw[show(bq 0 3).length=3 from rfl] at a2;refine⟨k',refs',J',v10,v11,a1,by omega,a3,?_⟩;rw[decide_eq_false z] at ne;simp? [K9,ne,a4]
theorem DM(k:Nat){ns:List Int}(hn:ns.length<=63){L t:List Str}{hs:List (Str × List Rw)}{p p1 p2:PV}(P:iH L t hs p){i:Nat}(ea:eP [p1,p2] ((i:Int) % 2)=some p)(kk:Int)(o:Option Int)(g:PH)(k0:0<=kk)(k9:kk+1000<=900000)(u0 u4 u5 u6 u7 u8 u9 u10 u11 u12:Option PV) :
  ∃(k':Int)(g':PH)(v4 v5 v6 v7 v8 v9 v10 v11 v12:Option PV),kk<=k'/\k'<=kk+1000 /\
   lh (run pg (k+14)) [u0,some (.ref 1),some (.ref 2),some (.int i),u4,u5,u6,u7,u8,u9,u10,u11,u12] (aI ns::aF kk o:: .lst [p1,p2]::g)= .ok (.nx [u0,some (.ref 1),some (.ref 2),some (.int i),v4,v5,v6,v7,v8,v9,v10,v11,v12]) (aI ns::aF k' o:: .lst [p1,p2]::g'):=by
 have hm:=P.many;have hL:L.length<=20:=Nat.le_trans P.len (by decide);obtain⟨hi,hi0,hi1,eh⟩:=aX T (k+12) (.lst [p1,p2]::g) hn o (k:=kk) hs.length k0 (by omega) (by omega) (by omega);obtain⟨n,rfl⟩:=Int.eq_ofNat_of_zero_le hi0;obtain⟨hd,ei⟩: ∃ hd,hs[n]?=some hd:=⟨_,List.getElem?_eq_getElem (by omega)⟩
 obtain⟨ha,hr⟩:=P.hand T ei;have hmem:=List.mem_of_getElem? ei;have rl:=(P.rows hd hmem).1;have nm:=P.Qi hd hmem;have hM:=AE hd.2 t;have lM:(mD hd.2++t).length<=60:=by
  have h1:(mD hd.2).length<=hd.2.length:=List.length_filterMap_le _ _;have h2:=P.FP;rw[List.length_append];omega
 obtain⟨s,ls,k1,a1,a2,a3,a4,a5,a6⟩:=Dv T (k+11) hn P ei (kk+1) o (.lst [p1,p2]::g) (by omega) (by omega);have f1:run pg (k+14) "_law_rested" [au hd.2,ao s] (aI ns::aF k1 o:: .lst [p1,p2]::g)=_:=jl T (k+4) _ hL hr a1;have hS:p8 L (mD hd.2++t) hd.2 (aW hd.2 200 s):=⟨jP hr 200 _ a1,gG 200 _,by rw[fC,a3];exact iS (a2.nodup P.Qk),λx m=>by
  rw[fC,a3] at m;exact List.mem_append_right _ (a2.subset ((bT _).mem_iff.mp m))⟩
 generalize aW hd.2 200 s=S at f1 hS;have at4:=nF (h:=aI ns::aF (kk+1) o:: .lst [p1,p2]::g) (xs:=hs.map dI) (i:=n) (v:= .tup [.str hd.1,au hd.2]) (P3.dJ rfl (by rw[List.getElem?_map,ei];rfl));have A1: ∀ rest:MS,vZ rest (run pg (k+14)) [u0,some (.ref 1),some (.ref 2),some (.int i),u4,u5,u6,u7,u8,u9,u10,u11,u12] (aI ns::aF kk o:: .lst [p1,p2]::g)=rest (run pg (k+14)) [u0,some (.ref 1),some (.ref 2),some (.int i),some p,some (.int n),some (au hd.2),some (ao S),u8,u9,u10,u11,u12] (aI ns::aF k1 o:: .lst [p1,p2]::g):=λrest=>by
  obtain⟨bs,s3,s4,rfl⟩:=P.at_;unfold vZ;simp? [ea,List.length_map,eh,at4,a6,f1]
 obtain⟨k2,zs,J,b1,b2,b3,b4,b5⟩:=yN T (k+2) hn hL hr nm hM lM o (.lst [p1,p2]::g) hS k1 (by omega) (by omega);generalize hgL:PO.lst [p1,p2]::g=gL at b4 b5 A1
 let F:PH:=[.lst [yt],.lst (zs++[yt]),.lst (zs.take 1),.lst (zs++zs.take 1),.lst (zs.drop 1)]
 let B:PH:=gL++ .lst zs::J
 let G:PH:=gL++ .lst zs::(J++F)
 have BG:B++F=G:=by simp[B,G]
 have lB:B.length=gL.length+1+J.length:=by simp only[B,List.length_append,List.length_cons];omega
 have lG:G.length=B.length+5:=by rw[<- BG,List.length_append];rfl
 have s6:=Ca (ns:=ns) (B:=B) (a:=gL.length) (zs:=zs) aY b3 k2 o (run pg (k+14)) u0 (some (.ref 1)) (some (.ref 2)) (some (.int i)) (some p) (some (.int n)) (some (au hd.2)) (some (ao S)) u9 u10 u11 u12
 let R:List PV:=[.ref (gL.length+1+1),.ref (B.length+1+1+1),.ref (B.length+3+1+1),.ref (B.length+4+1+1)]
 have s6':K3 (run pg (k+14)) [u0,some (.ref 1),some (.ref 2),some (.int i),some p,some (.int n),some (au hd.2),some (ao S),some (.ref (gL.length+1+1)),u9,u10,u11,u12] (aI ns::aF k2 o::B)= .ok (.ref (G.length+1+1)) (aI ns::aF k2 o::(G++[.lst R])):=by
  rw[s6,lG,<- BG,show(B++F)++[PO.lst R]=B++(F++[.lst R]) from List.append_assoc ..];rfl
 have hc:Dk G [] yt:= .inl ⟨_,_,_,_,rfl,.inl ⟨_,rfl⟩,.inl (.inl ⟨_,rfl⟩),.inr (.inr (.inl ⟨_,rfl⟩))⟩;have hz: ∀ z∈zs,Dk G [] z:=λz m=>(b4 z m).O9 _ _;have atF: ∀(i:Nat)(q:PO),F[i]?=some q->EG G [] (B.length+i+2) q:=λi q e=> .inl ⟨B.length+i,rfl,by rw[<- BG,List.getElem?_append_right (by omega),show B.length+i - B.length=i by omega];exact e⟩;have hR: ∀ r∈R,oq G [] r:=λr m=>by
  simp only[R,List.mem_cons,List.not_mem_nil,or_false] at m;rcases m with rfl | rfl | rfl | rfl
  . exact⟨_,zs,rfl,.inl ⟨gL.length,rfl,aY⟩,by omega,hz⟩
  . refine⟨_,zs++[yt],rfl,atF 1 _ rfl,by simp only[List.length_append,List.length_cons,List.length_nil];omega,λy m=>?_⟩;rcases List.mem_append.mp m with m | m
    . exact hz y m
    . rw[List.mem_singleton.mp m];exact hc
  . refine⟨_,zs++zs.take 1,rfl,atF 3 _ rfl,by simp only[List.length_append,List.length_take];omega,λy m=>?_⟩;rcases List.mem_append.mp m with m | m
    . exact hz y m
    . exact hz y (List.mem_of_mem_take m)
  . exact⟨_,zs.drop 1,rfl,atF 4 _ rfl,by simp only[List.length_drop];omega,λy m=>hz y (List.mem_of_mem_drop m)⟩
 obtain⟨k3,refs,J',v10,v11,c1,c2,c3,c4⟩:=J3 T (k+11) hn (zs:=zs) (gL:=gL) (J:=J) (F:=F) (G:=G) b3 b4 rfl hR (by simp[R]) k2 o (by omega) (by omega) u0 (some (.ref 2)) (some (.int i)) (some p) (some (.int n)) (some (au hd.2)) (some (ao S)) u10 u11 u12;have fi:hW.fH ⟨some (G.length+1+1),refs⟩ (aI ns::aF k3 o::(G++ .lst refs::J'))=true:=iN (show(G++ .lst refs::J')[G.length]?=_ from aY);obtain⟨v12,d1⟩:=zG T (k+2) hL ha hr nm hM lM hS G J' (aI ns) (aF k3 o) (.lst refs) fi u0 (some (.ref 1)) (some (.ref 2)) (some (.int i)) (some (.ref (gL.length+1+1))) (some (.ref (G.length+1+1))) v10 v11 refs u12 c3;have q5:ak (ah "_law_looks" (aa (ab 1) (aa (ab 6) (aa (ab 7) ae)))) (gN 8) (run pg (k+14)) [u0,some (.ref 1),some (.ref 2),some (.int i),some p,some (.int n),some (au hd.2),some (ao S),u8,u9,u10,u11,u12] (aI ns::aF k1 o::gL)= .ok (.nx [u0,some (.ref 1),some (.ref 2),some (.int i),some p,some (.int n),some (au hd.2),some (ao S),some (.ref (gL.length+1+1)),u9,u10,u11,u12]) (aI ns::aF k2 o::B):=by
  simp? [b5];rfl
 have q6:ak K3 (gN 9) (run pg (k+14)) [u0,some (.ref 1),some (.ref 2),some (.int i),some p,some (.int n),some (au hd.2),some (ao S),some (.ref (gL.length+1+1)),u9,u10,u11,u12] (aI ns::aF k2 o::B)= .ok (.nx [u0,some (.ref 1),some (.ref 2),some (.int i),some p,some (.int n),some (au hd.2),some (ao S),some (.ref (gL.length+1+1)),some (.ref (G.length+1+1)),u10,u11,u12]) (aI ns::aF k2 o::(G++[.lst R])):=by
  rw[BD,s6',dU,wg];rfl
 have q8:Oa (run pg (k+14)) [u0,some (.ref 1),some (.ref 2),some (.int i),some p,some (.int n),some (au hd.2),some (ao S),some (.ref (gL.length+1+1)),some (.ref (G.length+1+1)),v10,v11,u12] (aI ns::aF k3 o::(G++ .lst refs::J'))= .ok (.nx [u0,some (.ref 1),some (.ref 2),some (.int i),some p,some (.int n),some (au hd.2),some (ao S),some (.ref (gL.length+1+1)),some (.ref (G.length+1+1)),v10,v11,v12]) (aI ns::aF k3 o::(G++ .lst refs::J')):=by
  have hg:(aI ns::aF k3 o::(G++ .lst refs::J'))[G.length+1+1]?=some (.lst refs):=aY;generalize aI ns::aF k3 o::(G++ .lst refs::J')=H at d1 hg;simp? [Oa,hg,d1]
 refine⟨k3,g++ .lst zs::(J++F)++ .lst refs::J',some p,some (.int n),some (au hd.2),some (ao S),some (.ref (gL.length+1+1)),some (.ref (G.length+1+1)),v10,v11,v12,by omega,by omega,?_⟩;have e9:G++ .lst refs::J'=PO.lst [p1,p2]::(g++ .lst zs::(J++F)++ .lst refs::J'):=by
  show(gL++_)++_=_;rw[<- hgL];rfl
 rw[lh,A1,n6 q5,n6 q6,n6 c4,q8,e9]
theorem y9(k:Nat){ns:List Int}(hn:ns.length<=63){L1 t1 L2 t2:List Str}{hs1 hs2:List (Str × List Rw)}{p1 p2:PV}(P1:iH L1 t1 hs1 p1)(P2:iH L2 t2 hs2 p2)(xs0:List PV)(o:Option Int)(u0:Option PV) :
  ∀(js:List Nat)(kk:Int)(g:PH)(u3 u4 u5 u6 u7 u8 u9 u10 u11 u12:Option PV),0<=kk->kk+1000*js.length<=900000-> ∃(h':PH)(e':ax),
   bF ⟨none,xs0⟩ (bW (gN 3) lh (run pg (k+14))) (js.map λi:Nat=>PV.int (0+(i:Int))) [u0,some (.ref 1),some (.ref 2),u3,u4,u5,u6,u7,u8,u9,u10,u11,u12] (aI ns::aF kk o:: .lst [p1,p2]::g)= .ok (.nx e') h':=by
 intro js
 induction js with
 | nil=>intro kk g u3 u4 u5 u6 u7 u8 u9 u10 u11 u12 _ _;exact⟨_,_,iu⟩
 | cons i js ih =>
  intro kk g u3 u4 u5 u6 u7 u8 u9 u10 u11 u12 k0 k9
  rw[List.length_cons] at k9
  have one: ∀{L t:List Str}{hs:List (Str × List Rw)}{p:PV},iH L t hs p->eP [p1,p2] ((i:Int) % 2)=some p-> ∃(h':PH)(e':ax),
   bF ⟨none,xs0⟩ (bW (gN 3) lh (run pg (k+14))) ((i::js).map λi:Nat=>PV.int (0+(i:Int))) [u0,some (.ref 1),some (.ref 2),u3,u4,u5,u6,u7,u8,u9,u10,u11,u12] (aI ns::aF kk o:: .lst [p1,p2]::g)= .ok (.nx e') h':=by
   intro L t hs p P ea
   obtain⟨k1,g1,v4,v5,v6,v7,v8,v9,v10,v11,v12,a1,a2,a3⟩:=DM T k hn P ea kk o g k0 (by omega) u0 u4 u5 u6 u7 u8 u9 u10 u11 u12
   obtain⟨h',e',fi⟩:=ih k1 g1 (some (.int i)) v4 v5 v6 v7 v8 v9 v10 v11 v12 (by omega) (by omega)
   refine⟨h',e',?_⟩
   rw[List.map_cons,ft,tD,show(0:Int)+(i:Int)=(i:Int) from Int.zero_add _,Fp,dU]
   show(lh (run pg (k+14)) [u0,some (.ref 1),some (.ref 2),some (.int i),u4,u5,u6,u7,u8,u9,u10,u11,u12] (aI ns::aF kk o:: .lst [p1,p2]::g)).bind _=_
   rw[a3,dU,cB]
   exact fi
  rcases(show(i:Int) % 2=0\/(i:Int) % 2=1 by omega) with z | z
  . exact one P1 (by rw[z];exact DL)
  . exact one P2 (by rw[z];exact Hb)
end
theorem ze: ∀ ns:List Int,ns.length<=63->Ok (run tb (room+1) "law" [.ref 0] [.kD (ns.map PV.int)]) λv _=>v= .bl true:=by
 intro ns hn;have T:cP tb:=has;show Ok (run tb (20+1) "law" [.ref 0] [aI ns]) _;rw[run_eq T.Fs rfl];have dk:IG (0+1) [((.inr "script" :Key),PV.ref 0),(.inr "k",.int 0)] [aI ns,.dct []]= .ok (.ref 1) [aI ns,aF 0 none]:=by
  have mk:bH [] [((.inr "script" :Key),PV.ref 0),(.inr "k",.int 0)]=[(.inr "script",.ref 0),(.inr "k",.int 0)]:=by simp[bH,eQ,aV]
  have:=Bd (h:=[aI ns,.dct []]) (n:=1) (kvs:=[((.inr "script" :Key),PV.ref 0),(.inr "k",.int 0)]) rfl (show 2<=15 by decide);rw[mk] at this;exact this
 obtain⟨L1,t1,hs1,p1,k1,o1,P1,a1,a2,a3⟩:=oz T 10 hn 0 none [] (by decide) (by decide);obtain⟨L2,t2,hs2,p2,k2,o2,P2,b1,b2,b3⟩:=oz T 10 hn k1 o1 [] (by omega) (by omega);obtain⟨h',e',le⟩:=y9 T 6 hn P1 P2 (bq 0 8) o2 (some (.ref 0)) (List.range 8) k2 [] none none none none none none none none none none (by omega) (by rw[List.length_range];omega);rw[show(List.range 8).map (λi:Nat=>PV.int (0+(i:Int)))=bq 0 8 from rfl] at le;unfold lh vZ K3 K9 L8 O1 Oa MF at le;simp? [tX,AR,mh,qH,mG,qq,qP,rp,dk,a3,b3,le];unfold P3.settle;split<;>exact⟨_,_,rfl,rfl⟩
open PySem PySem.W PyProof.Rows
set_option maxHeartbeats 8000000
theorem all_mk{l:PySem.W.OpenLaw}{w:World}{K:PySem.W.Frag}{h:Heap}{mg:Str->Option Value}{fa:Addr}(X:K.In h)(G:h.Ns mainGlobals mg)(hfa:mg "law" =some (.ref fa)){tWORTHS:Tok}{tMOST_OWN_ROWS:Tok}{aPOCKETING:Addr}{nPOCKETING:Nat}{dPOCKETING:Option Addr}{sPOCKETING:Array (Option Value)}{tPOCKETING0 tPOCKETING1 tPOCKETING2 tPOCKETING3 tPOCKETING4:Tok}{aROW_PARTS:Addr}{eROW_PARTS:Nat}{qROW_PARTS0 qROW_PARTS1 qROW_PARTS2 qROW_PARTS3 qROW_PARTS4 qROW_PARTS5 qROW_PARTS6 qROW_PARTS7 qROW_PARTS8 qROW_PARTS9 qROW_PARTS10 qROW_PARTS11:Tok}{rROW_PARTS0:Addr}{nROW_PARTSv0_:Nat}{dROW_PARTSv0_:Option Addr}{sROW_PARTSv0_:Array (Option Value)}{tROW_PARTSv0_0 tROW_PARTSv0_1:Tok}{rROW_PARTS1:Addr}{nROW_PARTSv1_:Nat}{dROW_PARTSv1_:Option Addr}{sROW_PARTSv1_:Array (Option Value)}{tROW_PARTSv1_0 tROW_PARTSv1_1:Tok}{rROW_PARTS2:Addr}{nROW_PARTSv2_:Nat}{dROW_PARTSv2_:Option Addr}{sROW_PARTSv2_:Array (Option Value)}{tROW_PARTSv2_0 tROW_PARTSv2_1:Tok}{rROW_PARTS3:Addr}{nROW_PARTSv3_:Nat}{dROW_PARTSv3_:Option Addr}{sROW_PARTSv3_:Array (Option Value)}{tROW_PARTSv3_0 tROW_PARTSv3_1:Tok}{rROW_PARTS4:Addr}{nROW_PARTSv4_:Nat}{dROW_PARTSv4_:Option Addr}{sROW_PARTSv4_:Array (Option Value)}{tROW_PARTSv4_0:Tok}{rROW_PARTS5:Addr}{nROW_PARTSv5_:Nat}{dROW_PARTSv5_:Option Addr}{sROW_PARTSv5_:Array (Option Value)}{tROW_PARTSv5_0:Tok}{rROW_PARTS6:Addr}{nROW_PARTSv6_:Nat}{dROW_PARTSv6_:Option Addr}{sROW_PARTSv6_:Array (Option Value)}{tROW_PARTSv6_0 tROW_PARTSv6_1:Tok}{rROW_PARTS7:Addr}{nROW_PARTSv7_:Nat}{dROW_PARTSv7_:Option Addr}{sROW_PARTSv7_:Array (Option Value)}{tROW_PARTSv7_0 tROW_PARTSv7_1:Tok}{rROW_PARTS8:Addr}{nROW_PARTSv8_:Nat}{dROW_PARTSv8_:Option Addr}{sROW_PARTSv8_:Array (Option Value)}{tROW_PARTSv8_0 tROW_PARTSv8_1:Tok}{rROW_PARTS9:Addr}{nROW_PARTSv9_:Nat}{dROW_PARTSv9_:Option Addr}{sROW_PARTSv9_:Array (Option Value)}{tROW_PARTSv9_0:Tok}{rROW_PARTS10:Addr}{nROW_PARTSv10_:Nat}{dROW_PARTSv10_:Option Addr}{sROW_PARTSv10_:Array (Option Value)}{tROW_PARTSv10_0 tROW_PARTSv10_1:Tok}{rROW_PARTS11:Addr}{nROW_PARTSv11_:Nat}{dROW_PARTSv11_:Option Addr}{sROW_PARTSv11_:Array (Option Value)}{tROW_PARTSv11_0 tROW_PARTSv11_1:Tok}
  (A0:At K mg "is_whole" (top 1))
  (A1:At K mg "is_between" (top 2))
  (A2:At K mg "is_value" (top 3))
  (A3:At K mg "is_tuple_of" (top 4))
  (A4:At K mg "worth" (top 8))
  (A5:At K mg "joined_worth" (top 9))
  (A6:At K mg "rows_of" (top 11))
  (A7:At K mg "rested" (top 15))
  (A8:At K mg "is_rested" (top 16))
  (A9:At K mg "is_own_row" (top 17))
  (A10:At K mg "behind_own_row" (top 18))
  (A11:At K mg "laid" (top 19))
  (A12:At K mg "touch_of" (top 20))
  (A13:At K mg "seat_behind" (top 21))
  (A14:At K mg "goes_so" (top 22))
  (A15:At K mg "gives_look" (top 23))
  (A16:At K mg "may_come" (top 24))
  (A17:At K mg "_law_draw" (top 26))
  (A18:At K mg "_law_pick" (top 27))
  (A19:At K mg "_law_names" (top 28))
  (A20:At K mg "_law_sum_in" (top 29))
  (A21:At K mg "_law_sum" (top 30))
  (A22:At K mg "_law_row" (top 31))
  (A23:At K mg "_law_program" (top 32))
  (A24:At K mg "_law_worth" (top 33))
  (A25:At K mg "_law_own" (top 34))
  (A26:At K mg "_law_rested" (top 35))
  (A27:At K mg "_law_touch" (top 36))
  (A28:At K mg "_law_behind" (top 37))
  (A29:At K mg "_law_value" (top 38))
  (A30:At K mg "_law_seat" (top 39))
  (A31:At K mg "_law_same" (top 40))
  (A32:At K mg "_law_whole" (top 41))
  (A33:At K mg "_law_is_look" (top 42))
  (A34:At K mg "_law_goes" (top 43))
  (A35:At K mg "_law_looks" (top 44))
  (A36:At K mg "_law_bent" (top 45))
  (A37:At K mg "law" (top 46))
  (z0:PySem.W.nsIn K mainGlobals "len" =some none)
  (z1:PySem.W.nsIn K mainGlobals "range" =some none)
  (z2:PySem.W.nsIn K mainGlobals "isinstance" =some none)
  (z3:PySem.W.nsIn K mainGlobals "int" =some none)
  (z4:PySem.W.nsIn K mainGlobals "bool" =some none)
  (z5:PySem.W.nsIn K mainGlobals "tuple" =some none)
  (z6:PySem.W.nsIn K mainGlobals "dict" =some none)
  (z7:PySem.W.nsIn K mainGlobals "sorted" =some none)
  (z8:PySem.W.nsIn K mainGlobals "min" =some none)
  (z9:PySem.W.nsIn K mainGlobals "max" =some none)
  (z10:PySem.W.nsIn K mainGlobals "abs" =some none)
  (z11:PySem.W.nsIn K mainGlobals "all" =some none)
  (z12:PySem.W.nsIn K mainGlobals "any" =some none)
  (z13:PySem.W.nsIn K mainGlobals "sum" =some none)
  (z14:PySem.W.nsIn K mainGlobals "str" =some none)
  (z15:PySem.W.nsIn K mainGlobals "list" =some none)
  (z16:PySem.W.nsIn K mainGlobals "zip" =some none)
  (z17:PySem.W.nsIn K mainGlobals "set" =some none)
  (z18:PySem.W.nsIn K mainGlobals "repr" =some none)
  (z19:PySem.W.nsIn K mainGlobals "enumerate" =some none)
  (wWORTHS:PySem.W.nsIn K mainGlobals "WORTHS" =some (some (.int 1000 tWORTHS)))
  (wMOST_OWN_ROWS:PySem.W.nsIn K mainGlobals "MOST_OWN_ROWS" =some (some (.int 200 tMOST_OWN_ROWS)))
  (wPOCKETING:PySem.W.nsIn K mainGlobals "POCKETING" =some (some (.ref aPOCKETING))) (oPOCKETING:K.lookup aPOCKETING=some ⟨.type "tuple",dPOCKETING,.seq #[.str "get" tPOCKETING0,.str "fetch" tPOCKETING1,.str "clock" tPOCKETING2,.str "lot" tPOCKETING3,.str "hear" tPOCKETING4] nPOCKETING,sPOCKETING⟩)
  (oROW_PARTSv0_:K.lookup rROW_PARTS0=some ⟨.type "tuple",dROW_PARTSv0_,.seq #[.str "pocket" tROW_PARTSv0_0,.str "sum" tROW_PARTSv0_1] nROW_PARTSv0_,sROW_PARTSv0_⟩)
  (oROW_PARTSv1_:K.lookup rROW_PARTS1=some ⟨.type "tuple",dROW_PARTSv1_,.seq #[.str "target" tROW_PARTSv1_0,.str "sum" tROW_PARTSv1_1] nROW_PARTSv1_,sROW_PARTSv1_⟩)
  (oROW_PARTSv2_:K.lookup rROW_PARTS2=some ⟨.type "tuple",dROW_PARTSv2_,.seq #[.str "pocket" tROW_PARTSv2_0,.str "box" tROW_PARTSv2_1] nROW_PARTSv2_,sROW_PARTSv2_⟩)
  (oROW_PARTSv3_:K.lookup rROW_PARTS3=some ⟨.type "tuple",dROW_PARTSv3_,.seq #[.str "box" tROW_PARTSv3_0,.str "sum" tROW_PARTSv3_1] nROW_PARTSv3_,sROW_PARTSv3_⟩)
  (oROW_PARTSv4_:K.lookup rROW_PARTS4=some ⟨.type "tuple",dROW_PARTSv4_,.seq #[.str "lock" tROW_PARTSv4_0] nROW_PARTSv4_,sROW_PARTSv4_⟩)
  (oROW_PARTSv5_:K.lookup rROW_PARTS5=some ⟨.type "tuple",dROW_PARTSv5_,.seq #[.str "lock" tROW_PARTSv5_0] nROW_PARTSv5_,sROW_PARTSv5_⟩)
  (oROW_PARTSv6_:K.lookup rROW_PARTS6=some ⟨.type "tuple",dROW_PARTSv6_,.seq #[.str "lane" tROW_PARTSv6_0,.str "sum" tROW_PARTSv6_1] nROW_PARTSv6_,sROW_PARTSv6_⟩)
  (oROW_PARTSv7_:K.lookup rROW_PARTS7=some ⟨.type "tuple",dROW_PARTSv7_,.seq #[.str "pocket" tROW_PARTSv7_0,.str "lane" tROW_PARTSv7_1] nROW_PARTSv7_,sROW_PARTSv7_⟩)
  (oROW_PARTSv8_:K.lookup rROW_PARTS8=some ⟨.type "tuple",dROW_PARTSv8_,.seq #[.str "door" tROW_PARTSv8_0,.str "sum" tROW_PARTSv8_1] nROW_PARTSv8_,sROW_PARTSv8_⟩)
  (oROW_PARTSv9_:K.lookup rROW_PARTS9=some ⟨.type "tuple",dROW_PARTSv9_,.seq #[.str "pocket" tROW_PARTSv9_0] nROW_PARTSv9_,sROW_PARTSv9_⟩)
  (oROW_PARTSv10_:K.lookup rROW_PARTS10=some ⟨.type "tuple",dROW_PARTSv10_,.seq #[.str "pocket" tROW_PARTSv10_0,.str "chances" tROW_PARTSv10_1] nROW_PARTSv10_,sROW_PARTSv10_⟩)
  (oROW_PARTSv11_:K.lookup rROW_PARTS11=some ⟨.type "tuple",dROW_PARTSv11_,.seq #[.str "pocket" tROW_PARTSv11_0,.str "door" tROW_PARTSv11_1] nROW_PARTSv11_,sROW_PARTSv11_⟩)
  (wROW_PARTS:PySem.W.nsIn K mainGlobals "ROW_PARTS" =some (some (.ref aROW_PARTS))) (oROW_PARTS:K.lookup aROW_PARTS=some { cls:= .type "dict",data:= .dict #[{ hash:=PyData.keyHash w.params "let",key:= .str "let" qROW_PARTS0,val:= .ref rROW_PARTS0 },{ hash:=PyData.keyHash w.params "leap",key:= .str "leap" qROW_PARTS1,val:= .ref rROW_PARTS1 },{ hash:=PyData.keyHash w.params "get",key:= .str "get" qROW_PARTS2,val:= .ref rROW_PARTS2 },{ hash:=PyData.keyHash w.params "put",key:= .str "put" qROW_PARTS3,val:= .ref rROW_PARTS3 },{ hash:=PyData.keyHash w.params "take",key:= .str "take" qROW_PARTS4,val:= .ref rROW_PARTS4 },{ hash:=PyData.keyHash w.params "free",key:= .str "free" qROW_PARTS5,val:= .ref rROW_PARTS5 },{ hash:=PyData.keyHash w.params "send",key:= .str "send" qROW_PARTS6,val:= .ref rROW_PARTS6 },{ hash:=PyData.keyHash w.params "fetch",key:= .str "fetch" qROW_PARTS7,val:= .ref rROW_PARTS7 },{ hash:=PyData.keyHash w.params "say",key:= .str "say" qROW_PARTS8,val:= .ref rROW_PARTS8 },{ hash:=PyData.keyHash w.params "clock",key:= .str "clock" qROW_PARTS9,val:= .ref rROW_PARTS9 },{ hash:=PyData.keyHash w.params "lot",key:= .str "lot" qROW_PARTS10,val:= .ref rROW_PARTS10 },{ hash:=PyData.keyHash w.params "hear",key:= .str "hear" qROW_PARTS11,val:= .ref rROW_PARTS11 }] eROW_PARTS }) (yROW_PARTS:(aROW_PARTS == sysModules)=false) :
  ∃ fd:FuncData,(∀(s:Shared)(v:Value),BindsTo s fd ⟨[v],[]⟩ [("_law_script",v)])/\ ∀ base:Heap,K.In base->base.Ns mainGlobals mg->hZ l.prog w K mg base rM (room+1) fa fd ["_law_script"] (uG K tb (room+1) "law"):=by
 have T:Top l.prog w K mg tb:=⟨(List.forall_mem_cons.mpr ⟨PySem.W.mg_none_of X G z0,(List.forall_mem_cons.mpr ⟨PySem.W.mg_none_of X G z1,(List.forall_mem_cons.mpr ⟨PySem.W.mg_none_of X G z2,(List.forall_mem_cons.mpr ⟨PySem.W.mg_none_of X G z3,(List.forall_mem_cons.mpr ⟨PySem.W.mg_none_of X G z4,(List.forall_mem_cons.mpr ⟨PySem.W.mg_none_of X G z5,(List.forall_mem_cons.mpr ⟨PySem.W.mg_none_of X G z6,(List.forall_mem_cons.mpr ⟨PySem.W.mg_none_of X G z7,(List.forall_mem_cons.mpr ⟨PySem.W.mg_none_of X G z8,(List.forall_mem_cons.mpr ⟨PySem.W.mg_none_of X G z9,(List.forall_mem_cons.mpr ⟨PySem.W.mg_none_of X G z10,(List.forall_mem_cons.mpr ⟨PySem.W.mg_none_of X G z11,(List.forall_mem_cons.mpr ⟨PySem.W.mg_none_of X G z12,(List.forall_mem_cons.mpr ⟨PySem.W.mg_none_of X G z13,(List.forall_mem_cons.mpr ⟨PySem.W.mg_none_of X G z14,(List.forall_mem_cons.mpr ⟨PySem.W.mg_none_of X G z15,(List.forall_mem_cons.mpr ⟨PySem.W.mg_none_of X G z16,(List.forall_mem_cons.mpr ⟨PySem.W.mg_none_of X G z17,(List.forall_mem_cons.mpr ⟨PySem.W.mg_none_of X G z18,(List.forall_mem_cons.mpr ⟨PySem.W.mg_none_of X G z19,(by intro p m;cases m)⟩)⟩)⟩)⟩)⟩)⟩)⟩)⟩)⟩)⟩)⟩)⟩)⟩)⟩)⟩)⟩)⟩)⟩)⟩)⟩),Cs (conT:=conT) rfl (List.forall_mem_cons.mpr ⟨Bi (PySem.W.mg_of X G wWORTHS) (.int _ _),(List.forall_mem_cons.mpr ⟨Bi (PySem.W.mg_of X G wMOST_OWN_ROWS) (.int _ _),(List.forall_mem_cons.mpr ⟨D5 (us:=[.str "get" tPOCKETING0,.str "fetch" tPOCKETING1,.str "clock" tPOCKETING2,.str "lot" tPOCKETING3,.str "hear" tPOCKETING4]) (PySem.W.mg_of X G wPOCKETING) oPOCKETING (by show 5<=sizeLine;decide) (.cons (.str _ _) (.cons (.str _ _) (.cons (.str _ _) (.cons (.str _ _) (.cons (.str _ _) .nil))))),(by intro p m;cases m)⟩)⟩)⟩),DR (dcT:=dcT) rfl (List.forall_mem_cons.mpr ⟨Hf (ls:=[("let",qROW_PARTS0,.ref rROW_PARTS0),("leap",qROW_PARTS1,.ref rROW_PARTS1),("get",qROW_PARTS2,.ref rROW_PARTS2),("put",qROW_PARTS3,.ref rROW_PARTS3),("take",qROW_PARTS4,.ref rROW_PARTS4),("free",qROW_PARTS5,.ref rROW_PARTS5),("send",qROW_PARTS6,.ref rROW_PARTS6),("fetch",qROW_PARTS7,.ref rROW_PARTS7),("say",qROW_PARTS8,.ref rROW_PARTS8),("clock",qROW_PARTS9,.ref rROW_PARTS9),("lot",qROW_PARTS10,.ref rROW_PARTS10),("hear",qROW_PARTS11,.ref rROW_PARTS11)]) (PySem.W.mg_of X G wROW_PARTS) oROW_PARTS yROW_PARTS (show([.inr "let",.inr "leap",.inr "get",.inr "put",.inr "take",.inr "free",.inr "send",.inr "fetch",.inr "say",.inr "clock",.inr "lot",.inr "hear"]:List Key).Nodup by decide +kernel) (.cons ⟨rfl,eL (us:=[.str "pocket" tROW_PARTSv0_0,.str "sum" tROW_PARTSv0_1]) oROW_PARTSv0_ (by show 2<=sizeLine;decide) (.cons (.str _ _) (.cons (.str _ _) .nil))⟩ (.cons ⟨rfl,eL (us:=[.str "target" tROW_PARTSv1_0,.str "sum" tROW_PARTSv1_1]) oROW_PARTSv1_ (by show 2<=sizeLine;decide) (.cons (.str _ _) (.cons (.str _ _) .nil))⟩ (.cons ⟨rfl,eL (us:=[.str "pocket" tROW_PARTSv2_0,.str "box" tROW_PARTSv2_1]) oROW_PARTSv2_ (by show 2<=sizeLine;decide) (.cons (.str _ _) (.cons (.str _ _) .nil))⟩ (.cons ⟨rfl,eL (us:=[.str "box" tROW_PARTSv3_0,.str "sum" tROW_PARTSv3_1]) oROW_PARTSv3_ (by show 2<=sizeLine;decide) (.cons (.str _ _) (.cons (.str _ _) .nil))⟩ (.cons ⟨rfl,eL (us:=[.str "lock" tROW_PARTSv4_0]) oROW_PARTSv4_ (by show 1<=sizeLine;decide) (.cons (.str _ _) .nil)⟩ (.cons ⟨rfl,eL (us:=[.str "lock" tROW_PARTSv5_0]) oROW_PARTSv5_ (by show 1<=sizeLine;decide) (.cons (.str _ _) .nil)⟩ (.cons ⟨rfl,eL (us:=[.str "lane" tROW_PARTSv6_0,.str "sum" tROW_PARTSv6_1]) oROW_PARTSv6_ (by show 2<=sizeLine;decide) (.cons (.str _ _) (.cons (.str _ _) .nil))⟩ (.cons ⟨rfl,eL (us:=[.str "pocket" tROW_PARTSv7_0,.str "lane" tROW_PARTSv7_1]) oROW_PARTSv7_ (by show 2<=sizeLine;decide) (.cons (.str _ _) (.cons (.str _ _) .nil))⟩ (.cons ⟨rfl,eL (us:=[.str "door" tROW_PARTSv8_0,.str "sum" tROW_PARTSv8_1]) oROW_PARTSv8_ (by show 2<=sizeLine;decide) (.cons (.str _ _) (.cons (.str _ _) .nil))⟩ (.cons ⟨rfl,eL (us:=[.str "pocket" tROW_PARTSv9_0]) oROW_PARTSv9_ (by show 1<=sizeLine;decide) (.cons (.str _ _) .nil)⟩ (.cons ⟨rfl,eL (us:=[.str "pocket" tROW_PARTSv10_0,.str "chances" tROW_PARTSv10_1]) oROW_PARTSv10_ (by show 2<=sizeLine;decide) (.cons (.str _ _) (.cons (.str _ _) .nil))⟩ (.cons ⟨rfl,eL (us:=[.str "pocket" tROW_PARTSv11_0,.str "door" tROW_PARTSv11_1]) oROW_PARTSv11_ (by show 2<=sizeLine;decide) (.cons (.str _ _) (.cons (.str _ _) .nil))⟩ .nil)))))))))))),(by intro p m;cases m)⟩)⟩
 have gs: ∀ p∈HA,∃ st N,aL l.prog w K mg tb p.1 p.2 st N:=(List.forall_mem_cons.mpr ⟨⟨_,_,vj has A0⟩,(List.forall_mem_cons.mpr ⟨⟨_,_,qJ has A1⟩,(List.forall_mem_cons.mpr ⟨⟨_,_,uh has A2⟩,(List.forall_mem_cons.mpr ⟨⟨_,_,o8 has A3⟩,(List.forall_mem_cons.mpr ⟨⟨_,_,C5 has A4⟩,(List.forall_mem_cons.mpr ⟨⟨_,_,nV has A5⟩,(List.forall_mem_cons.mpr ⟨⟨_,_,yc has A6⟩,(List.forall_mem_cons.mpr ⟨⟨_,_,Bg has A7⟩,(List.forall_mem_cons.mpr ⟨⟨_,_,rX has A8⟩,(List.forall_mem_cons.mpr ⟨⟨_,_,rC has A9⟩,(List.forall_mem_cons.mpr ⟨⟨_,_,lb has A10⟩,(List.forall_mem_cons.mpr ⟨⟨_,_,HU has A11⟩,(List.forall_mem_cons.mpr ⟨⟨_,_,uU has A12⟩,(List.forall_mem_cons.mpr ⟨⟨_,_,oN has A13⟩,(List.forall_mem_cons.mpr ⟨⟨_,_,xS has A14⟩,(List.forall_mem_cons.mpr ⟨⟨_,_,rG has A15⟩,(List.forall_mem_cons.mpr ⟨⟨_,_,uL has A16⟩,(List.forall_mem_cons.mpr ⟨⟨_,_,sT has A17⟩,(List.forall_mem_cons.mpr ⟨⟨_,_,rP has A18⟩,(List.forall_mem_cons.mpr ⟨⟨_,_,qg has A19⟩,(List.forall_mem_cons.mpr ⟨⟨_,_,o9 has A20⟩,(List.forall_mem_cons.mpr ⟨⟨_,_,uQ has A21⟩,(List.forall_mem_cons.mpr ⟨⟨_,_,uX has A22⟩,(List.forall_mem_cons.mpr ⟨⟨_,_,oa has A23⟩,(List.forall_mem_cons.mpr ⟨⟨_,_,rh has A24⟩,(List.forall_mem_cons.mpr ⟨⟨_,_,ui has A25⟩,(List.forall_mem_cons.mpr ⟨⟨_,_,ph has A26⟩,(List.forall_mem_cons.mpr ⟨⟨_,_,rB has A27⟩,(List.forall_mem_cons.mpr ⟨⟨_,_,pb has A28⟩,(List.forall_mem_cons.mpr ⟨⟨_,_,qm has A29⟩,(List.forall_mem_cons.mpr ⟨⟨_,_,tN has A30⟩,(List.forall_mem_cons.mpr ⟨⟨_,_,sG has A31⟩,(List.forall_mem_cons.mpr ⟨⟨_,_,rK has A32⟩,(List.forall_mem_cons.mpr ⟨⟨_,_,mP has A33⟩,(List.forall_mem_cons.mpr ⟨⟨_,_,sN has A34⟩,(List.forall_mem_cons.mpr ⟨⟨_,_,rF has A35⟩,(List.forall_mem_cons.mpr ⟨⟨_,_,tK has A36⟩,(List.forall_mem_cons.mpr ⟨⟨_,_,FN has A37⟩,(by intro p m;cases m)⟩)⟩)⟩)⟩)⟩)⟩)⟩)⟩)⟩)⟩)⟩)⟩)⟩)⟩)⟩)⟩)⟩)⟩)⟩)⟩)⟩)⟩)⟩)⟩)⟩)⟩)⟩)⟩)⟩)⟩)⟩)⟩)⟩)⟩)⟩)⟩)⟩)⟩)
 exact Gv T (As rfl gs) has.Fs rfl (FN has A37) hfa
theorem walk{l:PySem.W.OpenLaw}{q:Program}{loose:List Str}{XP:(Str->Option Value)->Heap->Prop}{YP:World->Heap->Prop}{d:DefRec}{K:Params->PySem.W.Frag}(hn:l.most=some 63)(hdf:d.params.defaults=[])
  (hY: ∀(w:World)(h:Heap),YP w h->(K w.params).In h)
  (F: ∀(w:World)(mg:Str->Option Value)(fa:Addr)(h:Heap),(K w.params).In h->h.Ns mainGlobals mg->mg d.name=some (.ref fa) ->
   ∃ fd:FuncData,(∀(s:Shared)(u:Value),BindsTo s fd ⟨[u],[]⟩ [("_law_script",u)])/\ ∀ base:Heap,(K w.params).In base->base.Ns mainGlobals mg->hZ l.prog w (K w.params) mg base rM (room+1) fa fd ["_law_script"] (uG (K w.params) tb (room+1) "law")) :
  PySem.W.WalkO q loose XP YP l.row.toRowW d [] (λf vs=>PySem.call f vs) :=
 L2.Dq (n:=63) (k:=room+1) (x:= "_law_script") (CX:=λ_=>rM) (sp:=λw=>uG (K w.params) tb (room+1) "law") hn (by decide) hdf ⟨rfl,by decide,by decide,rfl⟩ hY F (λ_ H a ns hl hO hS=>IJ ze H a ns hl hO hS) λ_ _ _ _ _ z=>z
end K11
open PySem PySem.W PyProof.Rows
set_option maxRecDepth 100000 in
set_option maxHeartbeats 0 in
theorem PySem.Challenge.cw_leastrecord_k11_looks_that_go_so_holds : PySem.Challenge.rw_leastrecord_k11_looks_that_go_so.Holds := by
 w_on;o_law;k_head;(case hw=>w_witness2)
 k_fill
 refine K11.walk (l:=PySem.Challenge.rw_leastrecord_k11_looks_that_go_so) rfl rfl (λw h Y=>PySem.W.kIn_of Y) ?F
 case F =>
  intro w mg fa h KX G hmg
  refine' K11.all_mk KX G hmg (L2.bo KX G ?_ ?_ ?_ ?_) (L2.bo KX G ?_ ?_ ?_ ?_) (L2.bo KX G ?_ ?_ ?_ ?_) (L2.bo KX G ?_ ?_ ?_ ?_) (L2.bo KX G ?_ ?_ ?_ ?_) (L2.bo KX G ?_ ?_ ?_ ?_) (L2.bo KX G ?_ ?_ ?_ ?_) (L2.bo KX G ?_ ?_ ?_ ?_) (L2.bo KX G ?_ ?_ ?_ ?_) (L2.bo KX G ?_ ?_ ?_ ?_) (L2.bo KX G ?_ ?_ ?_ ?_) (L2.bo KX G ?_ ?_ ?_ ?_) (L2.bo KX G ?_ ?_ ?_ ?_) (L2.bo KX G ?_ ?_ ?_ ?_) (L2.bo KX G ?_ ?_ ?_ ?_) (L2.bo KX G ?_ ?_ ?_ ?_) (L2.bo KX G ?_ ?_ ?_ ?_) (L2.bo KX G ?_ ?_ ?_ ?_) (L2.bo KX G ?_ ?_ ?_ ?_) (L2.bo KX G ?_ ?_ ?_ ?_) (L2.bo KX G ?_ ?_ ?_ ?_) (L2.bo KX G ?_ ?_ ?_ ?_) (L2.bo KX G ?_ ?_ ?_ ?_) (L2.bo KX G ?_ ?_ ?_ ?_) (L2.bo KX G ?_ ?_ ?_ ?_) (L2.bo KX G ?_ ?_ ?_ ?_) (L2.bo KX G ?_ ?_ ?_ ?_) (L2.bo KX G ?_ ?_ ?_ ?_) (L2.bo KX G ?_ ?_ ?_ ?_) (L2.bo KX G ?_ ?_ ?_ ?_) (L2.bo KX G ?_ ?_ ?_ ?_) (L2.bo KX G ?_ ?_ ?_ ?_) (L2.bo KX G ?_ ?_ ?_ ?_) (L2.bo KX G ?_ ?_ ?_ ?_) (L2.bo KX G ?_ ?_ ?_ ?_) (L2.bo KX G ?_ ?_ ?_ ?_) (L2.bo KX G ?_ ?_ ?_ ?_) (L2.bo KX G ?_ ?_ ?_ ?_) ?z0 ?z1 ?z2 ?z3 ?z4 ?z5 ?z6 ?z7 ?z8 ?z9 ?z10 ?z11 ?z12 ?z13 ?z14 ?z15 ?z16 ?z17 ?z18 ?z19 ?wWORTHS ?wMOST_OWN_ROWS ?wPOCKETING ?oPOCKETING ?oROW_PARTSv0_ ?oROW_PARTSv1_ ?oROW_PARTSv2_ ?oROW_PARTSv3_ ?oROW_PARTSv4_ ?oROW_PARTSv5_ ?oROW_PARTSv6_ ?oROW_PARTSv7_ ?oROW_PARTSv8_ ?oROW_PARTSv9_ ?oROW_PARTSv10_ ?oROW_PARTSv11_ ?wROW_PARTS ?oROW_PARTS ?yROW_PARTS
  all_goals try k_is
  all_goals try k_is
  all_goals exact rfl
end
end
end
