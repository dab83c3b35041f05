import Derived.Deep.MidRow
import Derived.Test.YtkgbdddkcjpgfaaGreatDoorT50
import Derived.Deep.SlicePairs
import Derived.WideShapes
import Derived.ChangeMaps5
import Derived.Test.YtkgbdddkcjpgfaaGreatDoorRows
import Derived.OpenShut
import Derived.ChangeSame
import Derived.FnData
import Derived.ReadAgain
import Derived.LaidLaws
import Derived.Leaving
import Derived.Conc.HoldsTime
namespace Go.Proofs.YtkgbdddkcjpgfaaGreatDoor
set_option maxHeartbeats 4000000
set_option maxRecDepth 100000
open Go.Proofs.Tryz
open Pl (AE Env PO arity AO BH A4 BA BR BW IA CS C8 DN DY DW A7 AU AW)
section
open Go.RowKit Go.Lib Go.Maps
variable {w w':World} {n gb tb mb:Nat} {v:Value}
def oF:List AE:=AU::Pl.AO.take 12
theorem kZ:oF.Nodup:=by decide
theorem aAQ:oF.length=13:=rfl
def NJ:Nat->Value
 | 0=>.iface 243 (.agg #[])
 | k+1=>.iface 246 (.int .i64 (k:Int))
def H8(n0:List AE):Nat->List AE
 | 0=>n0
 | n+1=>match oF[n]? with
  | some nm=>b9 (H8 n0 n) nm
  | none=>H8 n0 n
theorem aA8{a:List AE}{nm:AE}(hi:oF[n]?=some nm):H8 a (n+1)=b9 (H8 a n) nm:=by show(match oF[n]? with | some nm=>b9 (H8 a n) nm | none=>H8 a n)=_;rw [hi]
theorem aBB(a:List AE):∀n,(H8 a n).length<=a.length+n
 | 0=>n_
 | n+1=>by
  have:=aBB a n;show(match oF[n]? with | some b=>b9 (H8 a n) b | none=>H8 a n).length<=_;split
  ·rename_i b _;have:=dE (H8 a n) b;omega
  ·omega
theorem aB3(a:List AE):∀n,a <+: H8 a n
 | 0=>List.prefix_refl _
 | n+1=>by
  show a <+: (match oF[n]? with | some b=>b9 (H8 a n) b | none=>H8 a n);split
  ·exact(aB3 a n).trans (pL _ _)
  ·exact aB3 a n
theorem num_at(w:World)(tb mb i:Nat)(a:List AE)(f:a.length<=1000)(nm:AE)(h:IW w tb mb (H8 a i))(hi:oF[i]?=some nm):Calls prog 123 #[.pointer (some ⟨tb,0,none⟩),.string ⟨nm.toArray⟩] w fun e b=>e=.returned (.int .i64 ((H8 a i).idxOf nm:Nat))/\IW b tb mb (H8 a (i+1))/\w.grownBy b (some mb):=by
 have c:=(s_ hi).1
 have d:nm.length<=10:=by
  have:∀x∈oF,x.length<=10:=by decide
  exact this nm (q_ hi)
 have l:=aBB a i;rw [aAQ] at c;refine(jE w tb mb (H8 a i) nm h (by omega) (by omega)).mono (fun e b ⟨g,j,k⟩=>⟨g,?_,k⟩);rw [aA8 hi];exact j
structure GI(w:World)(gb:Nat)(n0:List AE)(n:Nat)(D:DataW Value):Prop where
 own:w.ownsMap prog 3 s9 gb n D
 tidy:Tidy D
 nodup:(H8 n0 n).Nodup
 yes:∀(j:Nat)(nm:AE),j<n->oF[j]?=some nm->∃k:Nat,(H8 n0 n)[k]?=some nm/\Maps.has D (.int .i64 (k:Int))=true/\∀z,D.atKey (.int .i64 (k:Int)) z=.held (NJ j)
 no:∀k:Nat,Maps.has D (.int .i64 (k:Int))=true->∃(j:Nat)(nm:AE),j<n/\oF[j]?=some nm/\(H8 n0 n)[k]?=some nm
theorem GI.keep{a:List AE}{D:DataW Value}(h:GI w gb a n D)(b:w'.heap[gb]?=w.heap[gb]?):GI w' gb a n D:=by obtain⟨d,c,e,r⟩:=h.own;exact⟨⟨d,c,b.trans e,r⟩,h.tidy,h.nodup,h.yes,h.no⟩
theorem aCM{ns:List AE}(h:ns.Nodup)(nm:AE):(b9 ns nm).Nodup:=by
 unfold b9;split
 ·exact h
 ·rename_i d;rw [List.nodup_append];refine⟨h,by simp,fun a e b c=>?_⟩;rintro rfl;simp at c;subst c;exact d e
theorem aD3{i j:Nat}{nm:AE}(hi:oF[i]?=some nm)(a:oF[j]?=some nm):i=j:=by have b:=cV kZ hi;have c:=cV kZ a;omega
theorem GI.store{a:List AE}{D:DataW Value}(s:a.length<=1000)(h:GI w gb a n D){nm:AE}(hi:oF[n]?=some nm):∃g,(Instr.mapUpdate 145 (.map (some gb)) (.int .i64 ((H8 a n).idxOf nm:Nat)) (NJ n)).run prog w=.ok () g/\GI g gb a (n+1) (D.put (.int .i64 ((H8 a n).idxOf nm:Nat)) (.held (NJ n)))/\w.grownBy g (some gb):=by
 have t:=(s_ hi).1;rw [aAQ] at t;have B:=aBB a n;have C:(H8 a n).idxOf nm<=(H8 a n).length:=List.idxOf_le_length;have m:((b9 (H8 a n) nm))[(H8 a n).idxOf nm]?=some nm:=d8 _ _;have b:∀{k x},(H8 a n)[k]?=some x->(b9 (H8 a n) nm)[k]?=some x:=fun l=>bS (pL _ _) l;have o:=aCM h.nodup nm;have c:WideAt.IsKeyLit (.int .i64 ((H8 a n).idxOf nm:Nat)):=trivial;obtain⟨g,u,v,y⟩:=h.own.store TN underlying145 (by unfold maxLen;omega) (TQ (k:=(H8 a n).idxOf nm) (by unfold MH;omega)) (d:=.held (NJ n)) (ps:=[]) (val:=NJ n) rfl;refine⟨g,u,⟨v,h.tidy.put c _,by rw [aA8 hi];exact o,fun j x E f=>?_,fun k l=>?_⟩,y.grown⟩
 ·rw [aA8 hi];by_cases e:j=n
  ·subst e;obtain rfl:nm=x:=i_ (hi.symm.trans f);exact⟨_,m,has_put_same h.tidy.isMap c _,fun z=>atKey_put_same h.tidy.isMap c _ z⟩
  ·obtain⟨k,p,q,r⟩:=h.yes j x (by omega) f;have i:k≠(H8 a n).idxOf nm:=fun A=>by have:=b p;rw [A,m] at this;obtain rfl:=i_ this;exact e (aD3 f hi)
   exact⟨k,b p,by rw [has_put_other (eK i)];exact q,fun z=>by rw [atKey_put_other (eK i)];exact r z⟩
 ·rw [aA8 hi];by_cases e:k=(H8 a n).idxOf nm
  ·exact⟨n,nm,by omega,hi,by rw [e];exact m⟩
  ·rw [has_put_other (eK e)] at l;obtain⟨j,x,p,q,r⟩:=h.no k l;exact⟨j,x,by omega,q,b r⟩
def GQ(w:World)(tb mb gb:Nat)(n0:List AE)(n:Nat)(w':World):Prop:=IW w' tb mb (H8 n0 n)/\(∃D,GI w' gb n0 n D)/\(∀k,k<w.heap.size->k≠mb->w'.heap[k]?=w.heap[k]?)/\w.heap.size<=w'.heap.size/\w'.os=w.os/\w'.tape=w.tape/\w'.output=w.output/\gb<w'.heap.size/\w.heap.size<=gb
theorem GQ.alloc{b:List AE}(h:GQ w tb mb gb b n w')(o:Obj):GQ w tb mb gb b n (w'.alloc o):=by obtain⟨a,⟨D,c⟩,d,p,f,g,i,j,l⟩:=h;exact⟨a.keep (k_ a.lt.1) (k_ a.lt.2),⟨D,c.keep (k_ j)⟩,fun k m e=>(k_ (by omega)).trans (d k m e),by simp;omega,f,g,i,by simp;omega,l⟩
theorem GQ.next{j:List AE}(c:j.length<=1000)(h:GQ w tb mb gb j n w'){nm:AE}(hi:oF[n]?=some nm)(r:mb<w.heap.size)(s:tb<w.heap.size):Calls prog 123 #[.pointer (some ⟨tb,0,none⟩),.string ⟨nm.toArray⟩] w' fun e a=>∃i:Nat,e=.returned (.int .i64 (i:Int))/\∃d,(Instr.mapUpdate 145 (.map (some gb)) (.int .i64 (i:Int)) (NJ n)).run prog a=.ok () d/\GQ w tb mb gb j (n+1) d/\∀k,w.heap.size<=k->k<w'.heap.size->k≠gb->a.heap[k]?=w'.heap[k]? := by obtain⟨t,⟨D,u⟩,v,K,y,z,A,B,C⟩:=h;refine(num_at w' tb mb n j c nm t hi).mono (fun e a ⟨E,l,b⟩=>⟨_,E,?_⟩);have m:a.heap[gb]?=w'.heap[gb]? := b.block gb B (fun e=>by have:=i_ e;omega);obtain⟨d,F,G,f⟩:=(u.keep m).store c hi;have o:∀k,k<a.heap.size->k≠gb->d.heap[k]?=a.heap[k]? := fun k g e=>f.block k g (fun x=>e (i_ x));have q:∀k,k<w'.heap.size->k≠mb->a.heap[k]?=w'.heap[k]? := fun k g e=>b.block k g (fun x=>e (i_ x));have H:=b.size;have I:=f.size;refine⟨d,F,⟨l.keep (o tb (l.lt.1) (by omega)) (o mb (l.lt.2) (by omega)),⟨_,G⟩,fun k g e=>?_,by omega,f.os.trans (b.os.trans y),f.tape.trans (b.tape.trans z),f.output.trans (b.output.trans A),by omega,C⟩,fun k J p _=>q k p (by omega)⟩;rw [o k (by omega) (by omega),q k (by omega) e];exact v k g e
def oR:List Value:=[
 Value.string ⟨Pl.BH.toArray⟩,Value.int .i64 ((arity BH:Nat):Int),
 Value.string ⟨Pl.A4.toArray⟩,Value.int .i64 ((arity A4:Nat):Int),
 Value.string ⟨Pl.BA.toArray⟩,Value.int .i64 ((arity BA:Nat):Int),
 Value.string ⟨Pl.BW.toArray⟩,Value.int .i64 ((arity BW:Nat):Int),
 Value.string ⟨Pl.IA.toArray⟩,Value.int .i64 ((arity IA:Nat):Int),
 Value.string ⟨Pl.CS.toArray⟩,Value.int .i64 ((arity CS:Nat):Int),
 Value.string ⟨Pl.DN.toArray⟩,Value.int .i64 ((arity DN:Nat):Int),
 Value.string ⟨Pl.C8.toArray⟩,Value.int .i64 ((arity C8:Nat):Int),
 Value.string ⟨Pl.DY.toArray⟩,Value.int .i64 ((arity DY:Nat):Int),
 Value.string ⟨Pl.DW.toArray⟩,Value.int .i64 ((arity DW:Nat):Int),
 Value.string ⟨Pl.BR.toArray⟩,Value.int .i64 ((arity BR:Nat):Int),
 Value.string ⟨Pl.A7.toArray⟩,Value.int .i64 ((arity A7:Nat):Int)]
def uH:Value:=.agg oR.toArray
theorem yA(k:Nat)(nm:AE)(hi:AO[k]?=some nm)(b:k<12):oR[k*2]?=some (.string ⟨nm.toArray⟩)/\oR[k*2+1]?=some (.int .i64 ((arity nm:Nat):Int)):=by
 have a:k=0\/k=1\/k=2\/k=3\/k=4\/k=5\/k=6\/k=7\/k=8\/k=9\/k=10\/k=11:=by omega
 rcases a with rfl | rfl | rfl | rfl | rfl | rfl | rfl | rfl | rfl | rfl | rfl | rfl<;>(obtain rfl:=i_ hi;exact⟨rfl,rfl⟩)
theorem YF(w:World)(k:Nat)(nm:AE)(hi:AO[k]?=some nm)(b:k<12):(Instr.index 245 uH (.int .i64 (k:Int))).run prog w=.ok (.agg #[.string ⟨nm.toArray⟩,.int .i64 ((arity nm:Nat):Int)]) w:=by
 have a:k=0\/k=1\/k=2\/k=3\/k=4\/k=5\/k=6\/k=7\/k=8\/k=9\/k=10\/k=11:=by omega
 rcases a with rfl | rfl | rfl | rfl | rfl | rfl | rfl | rfl | rfl | rfl | rfl | rfl<;>(obtain rfl:=i_ hi;exact(show _=_ from by kernel_rfl))
theorem m1:oR.length=24:=rfl
theorem r6(w:World)(hp:EH w):w.rangeAt 1 0 oR:=by
 intro j v c;have k:j<24:=by rw [<- m1];exact(s_ c).1
 obtain⟨b,a⟩:∃b,AO[j / 2]?=some b:=⟨_,g_ (show j / 2<Pl.AO.length from Nat.lt_trans (show j / 2<12 by omega) (by decide))⟩
 obtain⟨f,g⟩:=yA (j / 2) b a (by omega);obtain⟨h,i⟩:=hp (j / 2) b a (by omega);rw [Nat.zero_add];rcases Nat.mod_two_eq_zero_or_one j with e | e
 ·have d:j / 2*2=j:=by omega
  rw [d] at f h;rw [h,<-f,c]
 ·have d:j / 2*2+1=j:=by omega
  rw [d] at g i;rw [i,<-g,c]
theorem Tryz.NK:prog.underlying 245=some (.array 12 244):=by kernel_rfl
theorem Tryz.YO:(prog.info? 245).map (·.size)=some oR.length:=by rw [m1];kernel_rfl
theorem iN{b:Array Oper}{rest:List Oper}{c:Oper}{a:Act}{Q:Exit->Act->World->Prop}(d:c.guard=none)(x:Operand)(e:c.op=.load 245 x)(f:a.eval x=.pointer (some ⟨1,0,none⟩))(hp:EH w)(h:wpList prog b Q rest (a.put c.dst uH) w):wpList prog b Q (c::rest) a w :=wpList_load_mid d 245 x e _ 0 f oR (.array 12 244) (r6 w hp) Tryz.NK rfl Tryz.YO h
theorem sJ(w:World)(tb mb:Nat)(a:List AE)(h:a.length<=1000)(u:a.Nodup)(l:IW w tb mb a)(hp:EH w)(K:8<=w.heap.size):Calls prog 75 #[.pointer (some ⟨tb,0,none⟩)] w fun e L=>e=.returned (.map (some w.heap.size))/\GQ w tb mb w.heap.size a 13 L:=by
 have D:=@run_makeMap prog;have v:Hid (GQ w tb mb w.heap.size a 0 (w.alloc (.map #[] 0))):=⟨l.keep (k_ l.lt.1) (k_ l.lt.2),⟨_,World.ownsMap_made w _ _ _,tidy_empty,u,fun j _ O=>by omega,fun k m=>by cases m⟩,fun k m _=>k_ m,by simp,rfl,rfl,rfl,by simp,n_⟩
 have x:Hid (mb<w.heap.size/\tb<w.heap.size/\a.length<=1000):=⟨l.lt.2,l.lt.1,h⟩
 have E:=h_ l;have y:Hid (Calls prog 123 #[.pointer (some ⟨tb,0,none⟩),.string ⟨#[99,97,108,108,47,99,99]⟩] (w.alloc (.map #[] 0)) fun e n=>∃i:Nat,e=.returned (.int .i64 (i:Int))/\∃b,(Instr.mapUpdate 145 (.map (some w.heap.size)) (.int .i64 (i:Int)) (.iface 243 (.agg #[]))).run prog n=.ok () b/\GQ w tb mb w.heap.size a 1 b/\∀k,w.heap.size<=k->k<(w.alloc (.map #[] 0)).heap.size->k≠w.heap.size->n.heap[k]?=(w.alloc (.map #[] 0)).heap[k]?):=GQ.next h v (nm:=AU) rfl x.1 x.2.1;clear l u h;go_enter func75,ntmps75
 go_upto_region 2 with(go_at_call 123;refine Calls.mono y ?_;rintro e n ⟨P,rfl,b,p,q,_⟩)
 have d:1≠mb:=fun e=>by obtain⟨Q,c,F⟩:=E.F6;have I:=(hp 0 BH rfl (by decide)).1;rw [e] at I;simp [World.cell?,F] at I
 have r:∀o,b.cell? ⟨1,o,none⟩=w.cell? ⟨1,o,none⟩:=fun o=>World.cell?_of_block (w:=w) (q.2.2.1 1 (l_ jN K) d);have G:Hid (EH b):=fun k f m z=>⟨(r _).trans (hp k f m z).1,(r _).trans (hp k f m z).2⟩
 have A:=h_ q;clear q r hp p y v d D;go_wp2_with (refine iN rfl _ rfl rfl G ?_)
 go_loopw [13] (fun i wr=>∃k:Nat,k<=12/\i=.int .i64 (k:Int)/\Hid (GQ w tb mb w.heap.size a (k+1) wr)) (fun i _=>12-(RowKit.intOf i).toNat)
 case atStart=>exact⟨0,by omega,rfl,A⟩
 case round =>
  obtain⟨k,m,rfl,J⟩:=hrel;by_cases s:k<12
  ·have R:decide ((k:Int)<12)=true:=by simp;omega
   obtain⟨f,t⟩:∃f,AO[k]?=some f:=⟨_,g_ (show k<Pl.AO.length from Nat.lt_trans s (by decide))⟩
   have g:oF[k+1]?=some f:=by unfold oF;rw [List.getElem?_cons_succ,List.getElem?_take_of_lt s];exact t
   have M:=fun w=>YF w k f t s;have N:Hid (∀o,Calls prog 123 #[.pointer (some ⟨tb,0,none⟩),.string ⟨f.toArray⟩] (wr.alloc o) fun e n=>∃i:Nat,e=.returned (.int .i64 (i:Int))/\∃b,(Instr.mapUpdate 145 (.map (some w.heap.size)) (.int .i64 (i:Int)) (.iface 246 (.int .i64 (k:Int)))).run prog n=.ok () b/\GQ w tb mb w.heap.size a (k+2) b/\∀k,w.heap.size<=k->k<(wr.alloc o).heap.size->k≠w.heap.size->n.heap[k]?=(wr.alloc o).heap[k]?):=fun o=>GQ.next x.2.2 (J.alloc o) g x.1 x.2.1;clear t g;go_wp2_with (go_at_call 123;refine(N _).mono ?_;rintro e n ⟨S,rfl,T,H,B,_⟩);have C:=h_ B;clear B
   go_roundw
   case rel=>exact⟨k+1,by omega,by go_num,C⟩
   case measure=>simp [RowKit.intOf];omega
  ·obtain rfl:k=12:=by omega
   go_wp2_with fail
   go_ret;exact⟨rfl,J⟩
def xM(gb:Nat):Obj:=.cells #[.map (some gb)] U9
theorem nD(w:World)(tb mb:Nat)(a:List AE)(b:a.length<=1000)(c:a.Nodup)(f:IW w tb mb a)(hp:EH w)(g:8<=w.heap.size):Calls prog 45 #[.pointer (some ⟨tb,0,none⟩)] w fun e h=>∃d,e=.returned (.pointer (some ⟨d.heap.size,0,none⟩))/\h=d.alloc (xM w.heap.size)/\GQ w tb mb w.heap.size a 13 d:=by have i:=h_ (sJ w tb mb a b c f hp g);clear f hp g b c;go_enter func45,ntmps45;go_wp2_with (go_at_call 75;refine Calls.mono i ?_;rintro e d ⟨rfl,j⟩);go_ret;exact⟨d,rfl,rfl,j⟩
def sgA(N:List AE):Sg:=⟨330,522,[],[],[],List.replicate 13 none,N⟩
def sgN(n0:List AE):Sg:=sgA (H8 n0 13)
theorem eO:∀(l:Env)(s:AE)(k:Nat),Pl.find l s=some k->(s,k)∈l
 | [],s,k,h=>by cases h
 | b::r,s,k,h=>by
  unfold Pl.find at h
  cases a:Pl.find r s with
  | some j =>rw [a] at h;obtain rfl:=i_ h;exact List.mem_cons_of_mem _ (eO r s j a)
  | none =>
   rw [a] at h;by_cases e:b.1=s
   ·simp only [if_pos e,o_] at h;rw [<- e,<-h];exact List.mem_cons_self ..
   ·simp only [if_neg e] at h
    cases h
theorem l8:∀b∈Pl.AW.globals,AO[b.2]?=some b.1/\b.1∈oF/\(List.replicate 13 (none:Option (Nat×Nat)))[b.2]?=some none/\Pl.AW.places[b.2]?=some (.AZ b.1):=by decide
theorem zO:∀a∈oF,(Pl.find Pl.AW.globals a).isSome=true:=by decide
theorem aDJ{N:List AE}{D:DataW Value}(g:Tidy D)(d:N.Nodup)(h:∀(j:Nat)(c:AE),j<13->oF[j]?=some c->∃k:Nat,N[k]?=some c/\Maps.has D (.int .i64 (k:Int))=true/\∀z,D.atKey (.int .i64 (k:Int)) z=.held (NJ j))(u:∀k:Nat,Maps.has D (.int .i64 (k:Int))=true->∃(j:Nat)(c:AE),j<13/\oF[j]?=some c/\N[k]?=some c):E2 D (sgA N) AW:=by
 have q:∀{k j:Nat} {c:AE},N[k]?=some c->N[j]?=some c->k=j:=fun y p=>by have I:=cV d y;have J:=cV d p;omega
 have l:∀{c:AE},c∈oF->∃j,j<13/\oF[j]?=some c:=fun A=>by obtain⟨j,f⟩:=List.getElem?_of_mem A;have:=(s_ f).1;rw [aAQ] at this;exact⟨j,this,f⟩
 refine⟨g,fun k c i m n=>?_,fun k c m n=>?_,fun k m=>?_,fun c i n=>?_,fun a b i B C=>?_⟩
 ·obtain⟨r,o,v,w⟩:=l8 _ (eO _ _ _ n);obtain⟨j,f,e⟩:=l o;obtain⟨E,s,F,G⟩:=h j c f e;obtain rfl:=q m s;refine⟨F,NJ j,.AZ c,G,w,?_⟩
  cases j with
  | zero =>obtain rfl:AU=c:=i_ e;exact .EC
  | succ j =>
   refine .AZ j c ?_ (by omega);have:(AU::Pl.AO.take 12)[j+1]?=some c:=e
   rwa [List.getElem?_cons_succ,List.getElem?_take_of_lt (by omega)] at this
 ·cases H:Maps.has D (.int .i64 (k:Int)) with
  | false=>rfl
  | true =>
   obtain⟨j,x,_,p,t⟩:=u k H;obtain rfl:c=x:=i_ (m.symm.trans t);have:=zO c (q_ p);rw [n] at this
   cases this
 ·obtain⟨j,x,_,p,t⟩:=u k m;exact(s_ t).1
 ·obtain⟨r,o,v,w⟩:=l8 _ (eO _ _ _ n);obtain⟨j,f,e⟩:=l o;obtain⟨E,s,_⟩:=h j c f e;exact⟨q_ s,v⟩
 ·obtain⟨r,_⟩:=l8 _ (eO _ _ _ B);obtain⟨o,_⟩:=l8 _ (eO _ _ _ C);exact i_ (r.symm.trans o)
theorem zP{a:List AE}{D:DataW Value}(h:GI w gb a 13 D):E2 D (sgN a) AW:=aDJ h.tidy h.nodup h.yes h.no
theorem X4{w0 w1 w2:World}{N:List AE}{D:DataW Value}(f:Below w0.heap.size w0 w1)(a:Gs w0 (fun _=>False))(hp:EH w0)(n:w0.cell? ⟨0,0,none⟩=some (.iface 301 (.agg #[.pointer (some ⟨8,63,none⟩)])))(q:GE w0)(x:w0.heap.size<=mb)(y:tb≠mb)(z:tb<w1.heap.size)(A:mb<w1.heap.size)(s:IW w2 tb mb N)(B:w2.ownsMap prog 3 s9 w1.heap.size 13 D)(C:E2 D (sgA N) AW)(E:∀k,k<w1.heap.size->k≠mb->w2.heap[k]?=w1.heap[k]?)(F:w2.os=w1.os)(G:w2.tape=w1.tape)(H:w2.output=w1.output)(I:w1.heap.size<w2.heap.size) :Wd (fun k=>k=mb\/k=w1.heap.size) (w2.alloc (xM w1.heap.size)) (sgA N) tb mb w2.heap.size w1.heap.size AW/\Stp (fun _=>False) w0 (fun k=>k=mb\/k=w1.heap.size) (w2.alloc (xM w1.heap.size)):=by
 have t:(w2.alloc (xM w1.heap.size)).ownsMap prog 3 s9 w1.heap.size 13 D:=by obtain⟨J,c,d,r⟩:=B;exact⟨J,c,(k_ I).trans d,r⟩
 have h:(w2.alloc (xM w1.heap.size)).heap.size=w2.heap.size+1:=by simp
 have K:=f.size;have l:Stp (fun _=>False) w0 (fun k=>k=mb\/k=w1.heap.size) (w2.alloc (xM w1.heap.size)):=by refine⟨F.trans f.os,G.trans f.tape,H.trans f.output,by rw [h];omega,fun k w _=>⟨?_,fun e=>by omega⟩⟩;rw [k_ (show k<w2.heap.size by omega),E k (by omega) (by omega)];exact f.block k w
 have m:IW (w2.alloc (xM w1.heap.size)) tb mb N:=s.keep (k_ s.lt.1) (k_ s.lt.2);refine⟨⟨⟨m,⟨rfl,List.nodup_nil,fun i b p d=>by cases d⟩,.inl rfl,fun e=>by omega,fun k w=>by rw [h];omega⟩,heap_alloc_new w2 _,fun e=>by omega,⟨D,t,C⟩,.inr rfl,by omega,⟨rfl,List.nodup_nil,fun i b p d=>by cases d⟩,⟨rfl,List.nodup_nil,fun i b p d=>by cases d⟩,⟨rfl,fun i j c v=>?_,fun i g o p v=>?_⟩,a.AQ l,hp.AQ a l,(bY a l kT).trans n,?_,rfl,rfl⟩,l⟩
 ·have:=q_ v;have e:=List.eq_of_mem_replicate this
  cases e
 ·have:=q_ v;have e:=List.eq_of_mem_replicate this
  cases e
 ·obtain⟨u,L,M⟩:=q;exact⟨u,(bY a l kU).trans L,M⟩
theorem new_wd{w0 w1 w2:World}{h:List AE}(j:Below w0.heap.size w0 w1)(a:Gs w0 (fun _=>False))(hp:EH w0)(b:w0.cell? ⟨0,0,none⟩=some (.iface 301 (.agg #[.pointer (some ⟨8,63,none⟩)])))(c:GE w0)(d:w0.heap.size<=mb)(e:tb≠mb)(f:tb<w1.heap.size)(g:mb<w1.heap.size)(l:GQ w1 tb mb w1.heap.size h 13 w2) :Wd (fun k=>k=mb\/k=w1.heap.size) (w2.alloc (xM w1.heap.size)) (sgN h) tb mb w2.heap.size w1.heap.size AW/\Stp (fun _=>False) w0 (fun k=>k=mb\/k=w1.heap.size) (w2.alloc (xM w1.heap.size)):=by obtain⟨m,⟨D,i⟩,n,_,o,p,q,r,_⟩:=l;exact X4 j a hp b c d e f g m i.own (zP i) n o p q r
theorem KB.below{l:List PO}(h:KB w v l)(a:Below w.heap.size w w'):KB w' v l:=by obtain⟨d,c,e,f,i⟩:=h;refine⟨d,c,e,f,fun k o j=>?_⟩;obtain⟨g,m,b,n,q,r⟩:=i k o j;exact⟨g,m,l_ b a.size,(a.cell (p:=⟨g,_,none⟩) b).trans n,(a.cell (p:=⟨g,_,none⟩) b).trans q,(a.cell (p:=⟨g,_,none⟩) b).trans r⟩
theorem F8.below{l:List (ByteArray×Int)}(h:F8 w v l)(a:Below w.heap.size w w'):F8 w' v l:=by obtain⟨d,b,e,f,i⟩:=h;refine⟨d,b,e,f,fun k o j=>?_⟩;obtain⟨g,m,c,n,q⟩:=i k o j;exact⟨g,m,l_ c a.size,(a.cell (p:=⟨g,_,none⟩) c).trans n,(a.cell (p:=⟨g,_,none⟩) c).trans q⟩
theorem F8.slice{l:List (ByteArray×Int)}(h:F8 w v l):∃b n a,v=.slice b n a:=by obtain⟨b,a,e,_⟩:=h;exact⟨b,_,a,e⟩
theorem KB.slice{l:List PO}(h:KB w v l):∃b n a,v=.slice b n a:=by obtain⟨b,a,e,_⟩:=h;exact⟨b,_,a,e⟩
end
section
open Go.ChangeShapes Go.WideShapes Go.RowKit Go.Deep
variable {W:World} {v:Value}
theorem Tryz.cellsIn:prog.cellsOf 41=2:=by kernel_rfl
theorem Tryz.P2:prog.cellsOf 3=1:=by kernel_rfl
theorem Tryz.KU:prog.cellsOf 9=1:=by kernel_rfl
def inOf(a b:Value):ByteArray×Int:=match a,b with
 | .string s,.int _ n=>(s,n)
 | _,_=>(ByteArray.empty,0)
theorem xN{H:Type}{enc:TypeId×Value->H}{r:Reach}{b0 base:Nat}{d:DataW H}{ps:List MemPlace}(o:Value.okWide prog W r b0 26 v)(N:DataW.Trod enc prog W base (fun _=>true) true 26 v d ps) :∃g,JF W v g/\g.length<=maxLen/\∀i∈g,i.1.size<=maxLen:=by
 obtain⟨a,p,B,rfl⟩:=okWide_slice underlying26 o;obtain⟨I,O⟩:=N;rcases open_slice_pairs underlying26 underlying41 Tryz.cellsIn rfl rfl Tryz.KU Tryz.P2 O with⟨q,P⟩ | ⟨A,J,K,m,n,L,M,T,U,V,X,q,_,Q,Y,C,P,t⟩
 ·simp only [Value.cells,List.cons.injEq,Value.slice.injEq,and_true] at q;obtain⟨rfl,rfl,rfl⟩:=q;exact⟨[],⟨none,0,rfl,n_,fun k i f=>by simp at f⟩,Nat.zero_le _,fun i f=>by cases f⟩
 ·simp only [Value.cells,List.cons.injEq,Value.slice.injEq,and_true] at q;obtain⟨rfl,rfl,rfl⟩:=q;simp only [if_true] at C;have c:∀i,i<p->∃(s:ByteArray)(z:Int),W.cell? (A.add (i*2))=some (.string s)/\W.cell? (A.add (i*2+1))=some (.int .i64 z)/\inOf (L i) (M i)=(s,z)/\s.size<=maxLen:=fun i f=>by obtain⟨l,u,w,D⟩:=t i (by omega);obtain⟨s,E,_,R⟩:=DataW.trod_string underlying9 w;obtain⟨z,F,_,_⟩:=DataW.trod_int underlying3 D;simp only [List.cons.injEq,and_true] at E F;rw [E] at l;rw [F] at u;exact⟨s,z,l,u,by rw [E,F];rfl,R⟩
  refine⟨(List.range p).map fun i=>inOf (L i) (M i),⟨some A,B,by simp,by simpa using Q,fun k i f=>?_⟩,by simp;omega,fun i f=>?_⟩
  ·rw [List.getElem?_map] at f;obtain⟨j,x,e⟩:=m_ f;have h:=(s_ x).1;rw [List.length_range] at h;rw [List.getElem?_range h] at x;obtain rfl:=i_ x;obtain⟨s,z,l,u,w,_⟩:=c k h;obtain⟨_,_,S,_⟩:=c 0 (by omega);rw [w] at e;subst e;obtain⟨b,G,y⟩:=A;obtain rfl:y=none:=by simpa [Addr.add] using World.cell?_spot S
   rw [Addr.add_mid] at l u;exact⟨b,G,rfl,World.block_lt_of_cell? _ _ l,l,by rw [Nat.add_assoc];exact u⟩
  ·obtain⟨j,x,rfl⟩:=List.mem_map.1 f;obtain⟨s,z,_,_,w,D⟩:=c j (List.mem_range.1 x);rw [w];exact D
theorem rK{H:Type}{enc:TypeId×Value->H}{W':World}{base:Nat}{t:TypeId}{d:DataW H}{ps:List MemPlace}(b:DataW.Trod enc prog W base (fun _=>true) true t v d ps)(c:∀p∈ps,p.block<W.heap.size)(e:Below W.heap.size W W'):DataW.Trod enc prog W' base (fun _=>true) true t v d ps:=by obtain⟨a,f⟩:=b;exact⟨a,DataW.trod_carry a t _ _ f (fun p g=>e.same (c p g))⟩
theorem Tryz.gPrm:prog.globalNamed "stepper/value.primitives"=some 1:=by kernel_rfl
theorem Tryz.gPrmT:(prog.globals[1]?).map (·.type)=some 245:=by kernel_rfl
theorem Tryz.UZ:prog.cellsOf 244=2:=by kernel_rfl
def Z7:List (DataW Unit):=Pl.AO.take 12 |>.map fun nm=>.agg [.lit (.string nm),.lit (.int .i64 (arity nm:Nat))]
theorem sY:(Rows.laid_stepper_value_primitives:DataW Unit)=.agg Z7:=rfl
theorem oQ{rest:List (String×DataW Unit)}(h:laidMet prog (("stepper/value.primitives",Rows.laid_stepper_value_primitives)::rest) W):EH W:=by
 obtain⟨R,⟨S,T,v,w,p,q,g,o,a,y,_,_⟩,_⟩:=h;obtain rfl:=i_ (Tryz.gPrm.symm.trans g);obtain rfl:=i_ (Tryz.gPrmT.symm.trans o);rw [sY] at y;obtain⟨r,m,_,A,U,V,c⟩:=DataW.trod_array Tryz.NK y;simp only [Prod.mk.injEq,DataW.agg.injEq] at A;intro k t H d;have B:=c k d;obtain⟨x,f⟩:∃x,r[k]?=some x:=⟨r[k]'(by omega),g_ _⟩
 rw [f,Tryz.UZ] at B
 have b:x.1=.agg [.lit (.string t),.lit (.int .i64 (arity t:Nat))]:=by
  have e:(r.map (·.1))[k]?=some x.1:=by rw [List.getElem?_map,f];rfl
  rw [<- A.1] at e;unfold Z7 at e;rw [List.getElem?_map,List.getElem?_take_of_lt d,H] at e;exact(i_ e).symm
 obtain⟨X,Y,n,I,_,J,K⟩:=trod_struct2 underlying244 B;obtain⟨s,C,L,_⟩:=DataW.trod_string underlying9 J;obtain⟨z,D,M,_⟩:=DataW.trod_int underlying3 K;rw [I,L,M] at b;simp only [DataW.agg.injEq,List.cons.injEq,DataW.lit.injEq,Lit.string.injEq,Lit.int.injEq,and_true,true_and] at b;obtain⟨E,N⟩:=b;rw [show prog.cellsOf 9=1 from Tryz.KU] at C;rw [show prog.cellsOf 3=1 from Tryz.P2] at D;have O:∀(l:List Value)(i j:Nat)(u:Value),((l.drop i).drop j).take 1=[u]->l[i+j]?=some u:=fun l i j u P=>by have:=congrArg (fun l=>l[0]?) P;simpa using this
 have F:v.toList[k*2+0]?=some (.string s):=by have:=congrArg (fun l=>l[0]?) C;simpa [List.getElem?_take,List.getElem?_drop] using this
 have G:v.toList[k*2+1]?=some (.int .i64 z):=by have:=congrArg (fun l=>l[0]?) D;simpa [List.getElem?_take,List.getElem?_drop] using this
 have Q:s=⟨t.toArray⟩:=by obtain⟨⟨Z⟩⟩:=s;simp only at E;rw [<- E]
 rw [World.var?_cell Tryz.gPrm a,World.var?_cell Tryz.gPrm a];rw [Q] at F;rw [N] at G;exact⟨by simpa using F,by simpa using G⟩
def InT(t:TypeId):Prop:=t=26\/t=41\/t=9\/t=3
theorem kidsIn:Kids prog InT:=by
 refine⟨fun {t e} a h=>?_,fun {t e} a h=>?_,fun {t e n} a h=>?_,fun {t c} a h=>?_,fun {t k e} a h=>?_⟩
 ·rcases a with rfl | rfl | rfl | rfl
  ·rw [underlying26] at h;cases h
  ·rw [underlying41] at h;cases h
  ·rw [underlying9] at h;cases h
  ·rw [underlying3] at h;cases h
 ·rcases a with rfl | rfl | rfl | rfl
  ·rw [underlying26] at h;cases h;exact .inr (.inl rfl)
  ·rw [underlying41] at h;cases h
  ·rw [underlying9] at h;cases h
  ·rw [underlying3] at h;cases h
 ·rcases a with rfl | rfl | rfl | rfl
  ·rw [underlying26] at h;cases h
  ·rw [underlying41] at h;cases h
  ·rw [underlying9] at h;cases h
  ·rw [underlying3] at h;cases h
 ·rcases a with rfl | rfl | rfl | rfl
  ·rw [underlying26] at h;cases h
  ·rw [underlying41] at h
   cases h
   refine⟨fun f b=>?_,?_,fun j f b=>?_⟩
   ·simp only [List.mem_cons,List.not_mem_nil,or_false] at b;rcases b with rfl | rfl
    ·exact .inr (.inr (.inl rfl))
    ·exact .inr (.inr (.inr rfl))
   ·rw [Tryz.cellsIn];simp [Tryz.KU,Tryz.P2]
   ·rcases j with _ | _ | j
    ·obtain rfl:=i_ b;rfl
    ·obtain rfl:=i_ b;simp [Tryz.KU]
    ·cases b
  ·rw [underlying9] at h;cases h
  ·rw [underlying3] at h;cases h
 ·rcases a with rfl | rfl | rfl | rfl
  ·rw [underlying26] at h;cases h
  ·rw [underlying41] at h;cases h
  ·rw [underlying9] at h;cases h
  ·rw [underlying3] at h;cases h
theorem tX{H:Type}{enc:TypeId×Value->H}{W':World}{d:DataW H}{ps:List MemPlace}(c:DataW.Trod enc prog W 0 (fun _=>true) true 26 v d ps)(a:∀p∈ps,p.block<W.heap.size)(f:Below W.heap.size W W'):DataW.Trod enc prog W' 0 (fun b=>decide (b<W.heap.size)) true 26 v d ps :=
 (rK c a f).respare kidsIn (fun t e g h=>by
  rcases g with rfl | rfl | rfl | rfl
  ·rw [underlying26] at h;cases h;rw [Tryz.cellsIn];omega
  ·rw [underlying41] at h;cases h
  ·rw [underlying9] at h;cases h
  ·rw [underlying3] at h;cases h) (.inl rfl) (fun p i=>decide_eq_true (a p i))
end
section
open Go
theorem gV{a:Assume}{C:Checked}{os:Os}{f:FuncId}{r:Reach}{c:World->Array Value->Prop}{b:World->Array Value->Value->World->Prop}(h:ReturnsInHanded a C os f r c b):ReturnsInLeavingWide a C os f r c b :=fun e=>ReturnsInOpen.mono (fun _ _ _ x=>⟨x.2.1,onlyLeaving_of_quiet x.1,x.2.2⟩) (fun _ x=>x) (h e)
section
variable {H:Type} {enc:TypeId×Value->H}
theorem mI{C:Checked}{os:Os}{f:FuncId}{g:Func}{s:ChangeSpec}{b:List PathCond}{apart:Bool}{X:World->Array Value->Prop}(c:World)(args:Array Value)(fuel:Nat)(h:c.os=os)
  (j:(c.forCall (fun _ _=>0) ⟨#[],args,[]⟩).Shaped C.prog)
  (d:Input.okWideB C.prog (c.forCall (fun _ _=>0) ⟨#[],args,[]⟩) f ⟨#[],args,[]⟩=true)
  (e:s.preB enc C.prog g b apart (c.forCall (fun _ _=>0) ⟨#[],args,[]⟩).memory args fuel=true)
  (k:s.sizedB enc C.prog g apart (c.forCall (fun _ _=>0) ⟨#[],args,[]⟩).memory args fuel=true)
  (l:X (c.forCall (fun _ _=>0) ⟨#[],args,[]⟩).memory args) :
  ∃(w:World)(a:Tape)(i:Input),w.os=os/\(w.forCall a i).Shaped C.prog/\i.vars=[]/\Input.okWide C.prog (w.forCall a i) .any w.heap.size f i /\
   ((s.pre enc C.prog g b apart (w.forCall a i).memory i.args/\X (w.forCall a i).memory i.args)/\sizedMet enc C.prog g (OpenSpec.ofChange s) apart (w.forCall a i).memory i.args)/\({calm:=true}:Assume).holds C.prog (lone (Frame.enter C.prog f i.args .normal) [] (w.forCall a i)) :=
 ⟨c,fun _ _=>0,⟨#[],args,[]⟩,h,j,(Input.okWide_of_okWideB (base:=0) d).1,(Input.okWide_of_okWideB d).2,⟨⟨ChangeSpec.pre_of_preB e,l⟩,sizedMet_of_sizedB k⟩,by
  simp only [Assume.holds]
  exact⟨by simp,fun _ _ _ _=>rfl,by simp,by simp,by simp⟩⟩
end
section
variable {H:Type} {enc:TypeId×Value->H}
theorem dV{a:Assume}{C:Checked}{os:Os}{f:FuncId}{k:Func}{s:ChangeSpec}{F:Stop.Interp}{g:List PathCond}{apart fresh handsOn:Bool}{X:World->Array Value->Prop}
  (L:∀(w J:World)(b:Array Value),w.heap=J.heap->X w b->X J b)
  (z:ownKnob C.prog.godebug=none) (l:os.Started) (n:C.prog.inits.idxOf? f=none) (A:C.prog.funcs[f]?=some k)
  (m:∃(w:World)(c:Tape)(i:Input),w.os=os/\(w.forCall c i).Shaped C.prog/\i.vars=[]/\Input.okWide C.prog (w.forCall c i) .any w.heap.size f i /\
   ((s.pre enc C.prog k g apart (w.forCall c i).memory i.args/\X (w.forCall c i).memory i.args)/\sizedMet enc C.prog k (OpenSpec.ofChange s) apart (w.forCall c i).memory i.args)/\a.holds C.prog (lone (Frame.enter C.prog f i.args .normal) [] (w.forCall c i)))
  (h:∀(W:World)(o:Nat)(b:Array Value) (p q:List (DataW H)) (d:List MemPlace),W.ShapedOpen C.prog ->
   (∀(j:Nat) t v,k.params[j]?=some t->b[j]?=some v->Value.okWide C.prog W .any o t v) ->
   DataW.Whole enc C.prog k.params.toList s.vars apart W b.toList p q d ->
   g.all (PathCond.test C.prog ⟨k.params.toList,p,s.plain.varTypes C.prog,q⟩)=true ->
   (DataW.weightsEach C.prog (k.params.toList++s.plain.varTypes C.prog) (p++q)).all (·<=reachBytes)=true->X W b ->
   Calls C.prog f b W fun e B=>∃v,e=.returned v/\s.post enc C.prog k apart fresh handsOn false W b v B/\B.os=W.os) :
  ReturnsInLeavingWide a C os f .any (fun w b=>(s.pre enc C.prog k g apart w b/\X w b)/\sizedMet enc C.prog k (OpenSpec.ofChange s) apart w b) ((OpenSpec.ofChange s).postWith enc C.prog k F (outsideKept [.timePasses]) apart fresh handsOn):=by
 refine gV (returnsInHanded_of_calls z l n m ?_);intro w c i _ D _ E r _;obtain⟨_,_,_,G,u,_,_,_,_,x⟩:=E;have e:G=k:=i_ (u.symm.trans A);subst e;obtain⟨⟨⟨p,q,d,K,M⟩,N⟩,O⟩:=r;have I:=DataW.Whole.of_heap (w':=w.forCall c i) (by rfl) K;refine(h (w.forCall c i) w.heap.size i.args p q d D x I M (O.weights K) (L _ _ _ (by rfl) N)).mono fun e B ⟨v,P,Q,y⟩=>?_;subst P;refine postWith_blind (postWith_of_post (by rw [<- y];exact Q) ⟨0,by rw [y];rfl⟩)
end
theorem Tryz.glob7:(((begin prog (fun _ _=>0) default).world.heap[7]?).bind Obj.row?).isSome=true:=by kernel_rfl
theorem Tryz.globN:7<prog.globals.size:=of_decide_eq_true (by kernel_rfl)
theorem j9{W:World}(h:W.ShapedOpen prog):8<=W.heap.size:=by obtain⟨⟨z,t⟩,a⟩:=Option.isSome_iff_exists.1 Tryz.glob7;obtain⟨c,b,_⟩:=h.1 7 z t Tryz.globN a;have:=(Array.getElem?_eq_some_iff.1 b).1;omega
end
section
open Go.RowKit Go.Lib Go.Maps
structure Low(w:World):Prop where
 DI:8<=w.heap.size
 B3:Lib.TabIs prog w oS .u64 Lib.pow10Tab
 JQ:EH w
 gt:GT w
 ge:GE w
theorem Low.below{w w1:World}(h:Low w)(b:Below w.heap.size w w1):Low w1:=by
 have a:Gs w (fun _=>False):=⟨h.DI,fun _ _ h=>h,h.B3⟩
 have c:=a.below b;exact⟨c.size,c.B3,h.JQ.AQ a (Stp.AA b),h.gt.below b,h.ge.below b⟩
theorem toList_inj{a b:ByteArray}:a.toList=b.toList↔a=b:=by rw [Lib.toList_data,Lib.toList_data];exact⟨fun e=>by cases a;cases b;simpa using e,fun e=>by rw [e]⟩
def AwQ(w w':World)(g cap:Nat):Prop:=Below w.heap.size w w'/\5<=cap/\g<w'.heap.size/\w'.cell? ⟨g,0,none⟩=some (.int .i64 0)/\w'.cell? ⟨g,1,none⟩=some (.string ⟨#[]⟩)/\w'.cell? ⟨g,2,none⟩=some (.string ⟨#[55]⟩)/\w'.cell? ⟨g,3,none⟩=some (.int .i64 7)/\w'.cell? ⟨g,6,none⟩=some (.int .i64 8)/\w'.cell? ⟨g,9,none⟩=some (.int .i64 2)/\w'.cell? ⟨g,12,none⟩=some (.int .i64 0)/\w'.cell? ⟨g,13,none⟩=some (.string ⟨#[]⟩)/\w'.cell? ⟨g,14,none⟩=some (.string ⟨#[55]⟩)
theorem AwQ.later{w w1 w2:World}{g cap:Nat}(h:AwQ w w1 g cap)(a:Below w1.heap.size w1 w2):AwQ w w2 g cap:=by obtain⟨c,d,b,e,f,i,j,k,l,m,n,o⟩:=h;exact⟨c.trans (a.mono c.size),d,l_ b a.size,(a.cell (p:=⟨g,_,none⟩) b).trans e,(a.cell (p:=⟨g,_,none⟩) b).trans f,(a.cell (p:=⟨g,_,none⟩) b).trans i,(a.cell (p:=⟨g,_,none⟩) b).trans j,(a.cell (p:=⟨g,_,none⟩) b).trans k,(a.cell (p:=⟨g,_,none⟩) b).trans l,(a.cell (p:=⟨g,_,none⟩) b).trans m,(a.cell (p:=⟨g,_,none⟩) b).trans n,(a.cell (p:=⟨g,_,none⟩) b).trans o⟩
end
end Go.Proofs.YtkgbdddkcjpgfaaGreatDoor
