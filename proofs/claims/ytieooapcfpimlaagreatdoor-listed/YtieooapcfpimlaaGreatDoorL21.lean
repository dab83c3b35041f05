import Derived.Test.YtieooapcfpimlaaGreatDoorL20
import Derived.Deep.MidRow
namespace Go.Proofs.YtieooapcfpimlaaGreatDoor
set_option maxHeartbeats 4000000
set_option maxRecDepth 100000
section
open Go.RowKit
namespace Pl
def W0:PW:=⟨[],[],[],[],[],[]⟩
def KF(l:List AE):PW:=l.foldl (fun W s=>bind W s (.AZ s)) W0
def AW:PW:=KF AO
end Pl
theorem nR(l:List Pl.AE)(s:Pl.AE):Pl.KF (l++[s])=Pl.bind (Pl.KF l) s (.AZ s):=by simp [Pl.KF,List.foldl_append]
theorem W0_ok:WW Pl.W0 0:=⟨fun i p h=>by simp [Pl.W0] at h,fun i p h=>by simp [Pl.W0] at h,n_,fun p h=>by simp [Pl.W0] at h,n_,fun p h=>by simp [Pl.W0] at h,n_,fun p h=>by simp [Pl.W0] at h,n_,fun p h=>by simp [Pl.W0] at h,n_⟩
theorem newL_ok(l:List Pl.AE)(h:∀s∈l,s∈Pl.AO):WW (Pl.KF l) l.length:=by
 have b:∀n (l:List Pl.AE),l.length=n->(∀s∈l,s∈Pl.AO)->WW (Pl.KF l) n:=by
  intro n
  induction n with
  | zero=>intro l a _;obtain rfl:=e_ a;exact W0_ok
  | succ n f =>
   intro l a d;obtain⟨c,s,rfl⟩:∃c s,l=c++[s]:=⟨l.dropLast,l.getLast (by intro e;simp [e] at a),(List.dropLast_concat_getLast _).symm⟩
   rw [nR];exact(jR (f c (by simpa using a) (fun x g=>d x (by simp [g]))) s (.AZ s) (d s (by simp))).1
 exact b _ l rfl h
theorem vP:WW Pl.AW 13:=newL_ok Pl.AO (fun _ h=>h)
end
open Pl (AE)
section
open Go.RowKit
def aggO(n:Nat)(out val:AE):Value:=.agg #[.int .i64 (n:Int),.string ⟨out.toArray⟩,.string ⟨val.toArray⟩]
end
open Go.Proofs.Tryz
open Pl (PW Env PO arity AO BH A4 BA BR BW IA CS C8 DN DY DW A7 AU AW)
section
open Go.RowKit Go.Lib Go.Maps
variable {w w':World} {n gb tb mb:Nat}
def TIn:TypeId:=25
def oE(w:World)(b:ByteArray)(n:Int):World:=(w.alloc (.cells #[.string b,.int .i64 n] TIn)).alloc (.cells #[.int .i64 0,.string ⟨#[]⟩,.string ⟨#[]⟩] FZ)
def aL4(w:World)(R:Nat)(c:Int)(o t:ByteArray):World:=((w.setCell ⟨R,0,none⟩ (.int .i64 c)).setCell ⟨R,1,none⟩ (.string o)).setCell ⟨R,2,none⟩ (.string t)
theorem aLZ(w:World)(b:ByteArray)(n:Int):(oE w b n).heap[w.heap.size]?=some (.cells #[.string b,.int .i64 n] TIn (0,0))/\(oE w b n).heap[w.heap.size+1]?=some (.cells #[.int .i64 0,.string ⟨#[]⟩,.string ⟨#[]⟩] FZ (0,0))/\(oE w b n).heap.size=w.heap.size+2/\Below w.heap.size w (oE w b n):=by refine⟨(k_ (by simp)).trans (heap_alloc_new w _),?_,by simp [oE],b_.alloc (by simp) _⟩;have:=heap_alloc_new (w.alloc (.cells #[.string b,.int .i64 n] TIn)) (.cells #[.int .i64 0,.string ⟨#[]⟩,.string ⟨#[]⟩] FZ);rw [show(w.alloc (.cells #[.string b,.int .i64 n] TIn)).heap.size=w.heap.size+1 from by simp] at this;exact this
theorem gS(w:World)(ev tb:Value)(b:ByteArray)(n:Int)(c:Nat)(Q:World->Prop)
  (l:∃T x,ev=.iface T x) (m:∃o,tb=.pointer o)
  (h:Calls prog 25 #[.agg #[.string b,.int .i64 n],tb] (oE w b n) fun e f=>∃v p,e=.returned (.tuple #[v,aY p (c:Int)])/\Q f)
  (r:∀f,Q f->GT f/\f.heap[w.heap.size+1]?=some (.cells #[.int .i64 0,.string ⟨#[]⟩,.string ⟨#[]⟩] FZ (0,0))) :
  Calls prog 18 #[ev,.agg #[.string b,.int .i64 n],tb] w fun e f=>∃a d,e=.returned (.agg #[.int .i64 (c:Int),.string ⟨#[]⟩,.string ⟨#[]⟩])/\Q a/\Below a.heap.size a d/\f=aL4 d (w.heap.size+1) c ⟨#[]⟩ ⟨#[]⟩:=by
 have q:=h_ h;have t:=h_ r;obtain⟨T,x,rfl⟩:=l;obtain⟨o,rfl⟩:=m;clear h r;go_enter func18,ntmps18
 go_upto_region 2 with(go_at_call 25;refine Calls.mono q ?_;rintro e a ⟨v,p,rfl,s⟩)
 obtain⟨i,g⟩:=t.out a s;have j:=h_ (aCA p c a i);have u:Hid (∀d,Below a.heap.size a d->d.heap[w.heap.size+1]?=some (.cells #[.int .i64 0,.string ⟨#[]⟩,.string ⟨#[]⟩] FZ (0,0))):=fun d y=>(y.block _ (aB g)).trans g;clear i g;unfold aY at j ⊢;go_wp2_with (go_at_call 26;refine Calls.mono j ?_;rintro e d ⟨rfl,k⟩;obtain⟨z,A,B,C,D,E,F,G,H⟩:=FA (u d k))
 (try simp only [Exit.inBlock,Exit.then])
 refine bodyPost_ret (v:=.agg #[.int .i64 (c:Int),.string ⟨#[]⟩,.string ⟨#[]⟩]) ?_ rfl ?_
 ·rw [aO rfl]
  go_simp
  try rfl
 exact⟨a,d,rfl,s,k,rfl⟩
theorem Tryz.runM(b:Nat)(w:World):(Go.method 518 40 (.pointer (some ⟨b,0,none⟩)) "Run").run prog w=.ok (139,.pointer (some ⟨b,0,none⟩)) w:=by kernel_rfl
theorem Tryz.runN(b:Nat)(w:World):(Go.nilAhead 518 40 (.pointer (some ⟨b,0,none⟩)) "Run").run prog w=.ok (some false) w:=by kernel_rfl
theorem Tryz.YZ:Enters 139:=enters_of func139 (by kernel_rfl) rfl
theorem sP(w:World)(l:Nat)(tb:Value)(b:ByteArray)(n:Int)(o t:ByteArray)(c:Nat)(B:Value->World->Prop)(z:World->Prop)(C:∃o,tb=.pointer o)
  (m:Calls prog 25 #[.agg #[.string b,.int .i64 n],tb] (oE w b n) fun e a=>∃d,e=.returned (.tuple #[d,.nilIface])/\B d a)
  (p:∀d a,B d a->(∃T x,d=.iface T x)/\a.heap[w.heap.size]?=some (.cells #[.string b,.int .i64 n] TIn (0,0)))
  (f:∀d g,B d g->Calls prog 139 #[.pointer (some ⟨l,0,none⟩),d,.int .i64 n] g fun e a=>∃j,e=.returned (.tuple #[.string o,.string t,j])/\(Calls prog 26 #[j] a fun e h=>e=.returned (.int .i64 (c:Int))/\Below a.heap.size a h)/\z a)
  (H:∀a,z a->a.heap[w.heap.size+1]?=some (.cells #[.int .i64 0,.string ⟨#[]⟩,.string ⟨#[]⟩] FZ (0,0))) :
  Calls prog 18 #[.iface 40 (.pointer (some ⟨l,0,none⟩)),.agg #[.string b,.int .i64 n],tb] w fun e a=>∃k A,e=.returned (.agg #[.int .i64 (c:Int),.string o,.string t])/\z k/\Below k.heap.size k A/\a=aL4 A (w.heap.size+1) c o t:=by
 have D:=h_ m;have I:=h_ H;have E:=h_ p;have q:=h_ f;have L:=Tryz.runM l;have J:=Tryz.runN l;have F:=Tryz.YZ;unfold Enters at F;obtain⟨M,rfl⟩:=C;clear m H p f;go_enter func18,ntmps18
 go_upto_region 2 with(go_at_call 25;refine Calls.mono D ?_;rintro e g ⟨d,rfl,r⟩)
 obtain⟨⟨T,x,rfl⟩,s⟩:=E.out d g r;have N:g.cell? ⟨w.heap.size,1,none⟩=some (.int .i64 n):=aA s 1;have K:Hid (Calls prog 139 #[.pointer (some ⟨l,0,none⟩),.iface T x,.int .i64 n] g fun e a=>∃j,e=.returned (.tuple #[.string o,.string t,j])/\Hid (Calls prog 26 #[j] a fun e h=>e=.returned (.int .i64 (c:Int))/\Hid (Below a.heap.size a h))/\Hid (z a)):=q.out _ g r;clear s
 go_wp2_with (first
  | (go_at_call 139;refine Calls.mono K ?_;rintro e k ⟨j,rfl,G,u⟩)
  | (go_at_call 26;refine Calls.mono G ?_;rintro e A ⟨rfl,y⟩;have i:=I.out k u;obtain⟨O,P,Q,R,S,U,V,W,X⟩:=FA ((y.block _ (aB i)).trans i);clear i))
 (try simp only [Exit.inBlock,Exit.then])
 refine bodyPost_ret (v:=.agg #[.int .i64 (c:Int),.string o,.string t]) ?_ rfl ?_
 ·rw [aO rfl]
  go_simp
  try rfl
 exact⟨k,A,rfl,u,y,rfl⟩
def AnsP(M:Nat->Prop)(w:World)(s:Sg)(tb mb sb gb:Nat)(r:PW×PO)(e:Ending)(w':World):Prop :=e=.returned (aggO r.2.code r.2.out r.2.val)/\∃M' s',Stp M w M' w'/\(Sg.Le s s'/\LP w s s')/\s'.ns.length<=s.ns.length+300/\Wd M' w' s' tb mb sb gb r.1
def oF:List AE:=AU::Pl.AO.take 12
theorem kZ:oF.Nodup:=by decide
theorem aAQ:oF.length=13:=rfl
def aL2:Nat->Value
 | 0=>.iface 83 (.agg #[])
 | k+1=>.iface 86 (.int .i64 (k:Int))
def H8(n0:List AE):Nat->List AE
 | 0=>n0
 | n+1=>match oF[n]? with
  | some nm=>b9 (H8 n0 n) nm
  | none=>H8 n0 n
theorem aA8{a:List AE}{nm:AE}(hi:oF[n]?=some nm):H8 a (n+1)=b9 (H8 a n) nm:=by show(match oF[n]? with | some nm=>b9 (H8 a n) nm | none=>H8 a n)=_;rw [hi]
theorem aBB(a:List AE):∀n,(H8 a n).length<=a.length+n
 | 0=>n_
 | n+1=>by
  have:=aBB a n;show(match oF[n]? with | some b=>b9 (H8 a n) b | none=>H8 a n).length<=_;split
  ·rename_i b _;have:=dE (H8 a n) b;omega
  ·omega
theorem num_at(w:World)(tb mb i:Nat)(a:List AE)(f:a.length<=1000)(nm:AE)(h:IW w tb mb (H8 a i))(hi:oF[i]?=some nm):Calls prog 27 #[.pointer (some ⟨tb,0,none⟩),.string ⟨nm.toArray⟩] w fun e b=>e=.returned (.int .i64 ((H8 a i).idxOf nm:Nat))/\IW b tb mb (H8 a (i+1))/\w.grownBy b (some mb):=by
 have c:=(s_ hi).1
 have d:nm.length<=10:=by
  have:∀x∈oF,x.length<=10:=by decide
  exact this nm (q_ hi)
 have l:=aBB a i;rw [aAQ] at c;refine(jE w tb mb (H8 a i) nm h (by omega) (by omega)).mono (fun e b ⟨g,j,k⟩=>⟨g,?_,k⟩);rw [aA8 hi];exact j
structure GI(w:World)(gb:Nat)(n0:List AE)(n:Nat)(D:DataW Value):Prop where
 own:w.ownsMap prog 3 heldE gb n D
 tidy:Tidy D
 nodup:(H8 n0 n).Nodup
 yes:∀(j:Nat)(nm:AE),j<n->oF[j]?=some nm->∃k:Nat,(H8 n0 n)[k]?=some nm/\Maps.has D (.int .i64 (k:Int))=true/\∀z,D.atKey (.int .i64 (k:Int)) z=.held (aL2 j)
 no:∀k:Nat,Maps.has D (.int .i64 (k:Int))=true->∃(j:Nat)(nm:AE),j<n/\oF[j]?=some nm/\(H8 n0 n)[k]?=some nm
 nat:∀x:Int,Maps.has D (.int .i64 x)=true->∃k:Nat,x=(k:Int)
theorem GI.keep{a:List AE}{D:DataW Value}(h:GI w gb a n D)(b:w'.heap[gb]?=w.heap[gb]?):GI w' gb a n D:=by obtain⟨d,c,e,r⟩:=h.own;exact⟨⟨d,c,b.trans e,r⟩,h.tidy,h.nodup,h.yes,h.no,h.nat⟩
theorem aCM{ns:List AE}(h:ns.Nodup)(nm:AE):(b9 ns nm).Nodup:=by
 unfold b9;split
 ·exact h
 ·rename_i d;rw [List.nodup_append];refine⟨h,by simp,fun a e b c=>?_⟩;rintro rfl;simp at c;subst c;exact d e
theorem aD3{i j:Nat}{nm:AE}(hi:oF[i]?=some nm)(a:oF[j]?=some nm):i=j:=by have b:=cV kZ hi;have c:=cV kZ a;omega
theorem GI.store{a:List AE}{D:DataW Value}(t:a.length<=1000)(h:GI w gb a n D){nm:AE}(hi:oF[n]?=some nm):∃g,(Instr.mapUpdate 58 (.map (some gb)) (.int .i64 ((H8 a n).idxOf nm:Nat)) (aL2 n)).run prog w=.ok () g/\GI g gb a (n+1) (D.put (.int .i64 ((H8 a n).idxOf nm:Nat)) (.held (aL2 n)))/\w.grownBy g (some gb):=by
 have u:=(s_ hi).1;rw [aAQ] at u;have E:=aBB a n;have F:(H8 a n).idxOf nm<=(H8 a n).length:=List.idxOf_le_length;have o:((b9 (H8 a n) nm))[(H8 a n).idxOf nm]?=some nm:=internL_get _ _;have b:∀{k x},(H8 a n)[k]?=some x->(b9 (H8 a n) nm)[k]?=some x:=fun m=>bS (pL _ _) m;have p:=aCM h.nodup nm;have c:WideAt.IsKeyLit (.int .i64 ((H8 a n).idxOf nm:Nat)):=trivial;obtain⟨g,v,A,B⟩:=h.own.store aKS underlying58 (by unfold maxLen;omega) (TQ (k:=(H8 a n).idxOf nm) (by unfold MH;omega)) (d:=.held (aL2 n)) (ps:=[]) (val:=aL2 n) rfl;refine⟨g,v,⟨A,h.tidy.put c _,by rw [aA8 hi];exact p,fun j x G f=>?_,fun k m=>?_,fun x i=>?_⟩,B.grown⟩
 ·rw [aA8 hi];by_cases e:j=n
  ·subst e;obtain rfl:nm=x:=i_ (hi.symm.trans f);exact⟨_,o,has_put_same h.tidy.isMap c _,fun z=>atKey_put_same h.tidy.isMap c _ z⟩
  ·obtain⟨k,q,r,s⟩:=h.yes j x (by omega) f;have l:k≠(H8 a n).idxOf nm:=fun C=>by have:=b q;rw [C,o] at this;obtain rfl:=i_ this;exact e (aD3 f hi)
   exact⟨k,b q,by rw [has_put_other (eK l)];exact r,fun z=>by rw [atKey_put_other (eK l)];exact s z⟩
 ·rw [aA8 hi];by_cases e:k=(H8 a n).idxOf nm
  ·exact⟨n,nm,by omega,hi,by rw [e];exact o⟩
  ·rw [has_put_other (eK e)] at m;obtain⟨j,x,q,r,s⟩:=h.no k m;exact⟨j,x,by omega,r,b s⟩
 ·by_cases e:x=((H8 a n).idxOf nm:Nat)
  ·exact⟨_,e⟩
  ·rw [has_put_other (fun y=>e (by injection y))] at i;exact h.nat x i
def GQ(w:World)(tb mb gb:Nat)(n0:List AE)(n:Nat)(w':World):Prop:=IW w' tb mb (H8 n0 n)/\(∃D,GI w' gb n0 n D)/\(∀k,k<w.heap.size->k≠mb->w'.heap[k]?=w.heap[k]?)/\w.heap.size<=w'.heap.size/\w'.os=w.os/\w'.tape=w.tape/\w'.output=w.output/\gb<w'.heap.size/\w.heap.size<=gb
theorem GQ.alloc{b:List AE}(h:GQ w tb mb gb b n w')(o:Obj):GQ w tb mb gb b n (w'.alloc o):=by obtain⟨a,⟨D,c⟩,d,p,f,g,i,j,l⟩:=h;exact⟨a.keep (k_ a.lt.1) (k_ a.lt.2),⟨D,c.keep (k_ j)⟩,fun k m e=>(k_ (by omega)).trans (d k m e),by simp;omega,f,g,i,by simp;omega,l⟩
theorem GQ.next{j:List AE}(c:j.length<=1000)(h:GQ w tb mb gb j n w'){nm:AE}(hi:oF[n]?=some nm)(r:mb<w.heap.size)(s:tb<w.heap.size):Calls prog 27 #[.pointer (some ⟨tb,0,none⟩),.string ⟨nm.toArray⟩] w' fun e a=>∃i:Nat,e=.returned (.int .i64 (i:Int))/\∃d,(Instr.mapUpdate 58 (.map (some gb)) (.int .i64 (i:Int)) (aL2 n)).run prog a=.ok () d/\GQ w tb mb gb j (n+1) d/\∀k,w.heap.size<=k->k<w'.heap.size->k≠gb->a.heap[k]?=w'.heap[k]? := by obtain⟨t,⟨D,u⟩,v,K,y,z,A,B,C⟩:=h;refine(num_at w' tb mb n j c nm t hi).mono (fun e a ⟨E,l,b⟩=>⟨_,E,?_⟩);have m:a.heap[gb]?=w'.heap[gb]? := b.block gb B (fun e=>by have:=i_ e;omega);obtain⟨d,F,G,f⟩:=(u.keep m).store c hi;have o:∀k,k<a.heap.size->k≠gb->d.heap[k]?=a.heap[k]? := fun k g e=>f.block k g (fun x=>e (i_ x));have q:∀k,k<w'.heap.size->k≠mb->a.heap[k]?=w'.heap[k]? := fun k g e=>b.block k g (fun x=>e (i_ x));have H:=b.size;have I:=f.size;refine⟨d,F,⟨l.keep (o tb (l.lt.1) (by omega)) (o mb (l.lt.2) (by omega)),⟨_,G⟩,fun k g e=>?_,by omega,f.os.trans (b.os.trans y),f.tape.trans (b.tape.trans z),f.output.trans (b.output.trans A),by omega,C⟩,fun k J p _=>q k p (by omega)⟩;rw [o k (by omega) (by omega),q k (by omega) e];exact v k g e
def oR:List Value:=[
 Value.string ⟨Pl.BH.toArray⟩,Value.int .i64 ((arity BH:Nat):Int),
 Value.string ⟨Pl.A4.toArray⟩,Value.int .i64 ((arity A4:Nat):Int),
 Value.string ⟨Pl.BA.toArray⟩,Value.int .i64 ((arity BA:Nat):Int),
 Value.string ⟨Pl.BW.toArray⟩,Value.int .i64 ((arity BW:Nat):Int),
 Value.string ⟨Pl.IA.toArray⟩,Value.int .i64 ((arity IA:Nat):Int),
 Value.string ⟨Pl.CS.toArray⟩,Value.int .i64 ((arity CS:Nat):Int),
 Value.string ⟨Pl.DN.toArray⟩,Value.int .i64 ((arity DN:Nat):Int),
 Value.string ⟨Pl.C8.toArray⟩,Value.int .i64 ((arity C8:Nat):Int),
 Value.string ⟨Pl.DY.toArray⟩,Value.int .i64 ((arity DY:Nat):Int),
 Value.string ⟨Pl.DW.toArray⟩,Value.int .i64 ((arity DW:Nat):Int),
 Value.string ⟨Pl.BR.toArray⟩,Value.int .i64 ((arity BR:Nat):Int),
 Value.string ⟨Pl.A7.toArray⟩,Value.int .i64 ((arity A7:Nat):Int)]
def uH:Value:=.agg oR.toArray
theorem yA(k:Nat)(nm:AE)(hi:AO[k]?=some nm)(b:k<12):oR[k*2]?=some (.string ⟨nm.toArray⟩)/\oR[k*2+1]?=some (.int .i64 ((arity nm:Nat):Int)):=by
 have a:k=0\/k=1\/k=2\/k=3\/k=4\/k=5\/k=6\/k=7\/k=8\/k=9\/k=10\/k=11:=by omega
 rcases a with rfl | rfl | rfl | rfl | rfl | rfl | rfl | rfl | rfl | rfl | rfl | rfl<;>(obtain rfl:=i_ hi;exact⟨rfl,rfl⟩)
theorem YF(w:World)(k:Nat)(nm:AE)(hi:AO[k]?=some nm)(b:k<12):(Instr.index 85 uH (.int .i64 (k:Int))).run prog w=.ok (.agg #[.string ⟨nm.toArray⟩,.int .i64 ((arity nm:Nat):Int)]) w:=by
 have a:k=0\/k=1\/k=2\/k=3\/k=4\/k=5\/k=6\/k=7\/k=8\/k=9\/k=10\/k=11:=by omega
 rcases a with rfl | rfl | rfl | rfl | rfl | rfl | rfl | rfl | rfl | rfl | rfl | rfl<;>(obtain rfl:=i_ hi;exact(show _=_ from by kernel_rfl))
theorem primL_len:oR.length=24:=rfl
theorem range_prim(w:World)(hp:EH w):w.rangeAt 0 0 oR:=by
 intro j v c;have k:j<24:=by rw [<- primL_len];exact(s_ c).1
 obtain⟨b,a⟩:∃b,AO[j / 2]?=some b:=⟨_,g_ (show j / 2<Pl.AO.length from Nat.lt_trans (show j / 2<12 by omega) (by decide))⟩
 obtain⟨f,g⟩:=yA (j / 2) b a (by omega);obtain⟨h,i⟩:=hp (j / 2) b a (by omega);rw [Nat.zero_add];rcases Nat.mod_two_eq_zero_or_one j with e | e
 ·have d:j / 2*2=j:=by omega
  rw [d] at f h;rw [h,<-f,c]
 ·have d:j / 2*2+1=j:=by omega
  rw [d] at g i;rw [i,<-g,c]
theorem Tryz.NK:prog.underlying 85=some (.array 12 84):=by kernel_rfl
theorem Tryz.YO:(prog.info? 85).map (·.size)=some oR.length:=by rw [primL_len];kernel_rfl
theorem iN{b:Array Oper}{rest:List Oper}{c:Oper}{a:Act}{Q:Exit->Act->World->Prop}(d:c.guard=none)(x:Operand)(e:c.op=.load 85 x)(f:a.eval x=.pointer (some ⟨0,0,none⟩))(hp:EH w)(h:wpList prog b Q rest (a.put c.dst uH) w):wpList prog b Q (c::rest) a w :=wpList_load_mid d 85 x e _ 0 f oR (.array 12 84) (range_prim w hp) Tryz.NK rfl Tryz.YO h
theorem sJ(w:World)(tb mb:Nat)(a:List AE)(h:a.length<=1000)(u:a.Nodup)(l:IW w tb mb a)(hp:EH w)(L:8<=w.heap.size):Calls prog 19 #[.pointer (some ⟨tb,0,none⟩)] w fun e M=>e=.returned (.map (some w.heap.size))/\GQ w tb mb w.heap.size a 13 M:=by
 have E:=@run_makeMap prog;have v:Hid (GQ w tb mb w.heap.size a 0 (w.alloc (.map #[] 0))):=⟨l.keep (k_ l.lt.1) (k_ l.lt.2),⟨_,World.ownsMap_made w _ _ _,tidy_empty,u,fun j _ Q=>by omega,fun k m=>(by cases m),fun x N=>(by cases N)⟩,fun k m _=>k_ m,by simp,rfl,rfl,rfl,by simp,n_⟩
 have y:Hid (mb<w.heap.size/\tb<w.heap.size/\a.length<=1000):=⟨l.lt.2,l.lt.1,h⟩
 have F:=h_ l;have z:Hid (Calls prog 27 #[.pointer (some ⟨tb,0,none⟩),.string ⟨#[99,97,108,108,47,99,99]⟩] (w.alloc (.map #[] 0)) fun e n=>∃i:Nat,e=.returned (.int .i64 (i:Int))/\∃b,(Instr.mapUpdate 58 (.map (some w.heap.size)) (.int .i64 (i:Int)) (.iface 83 (.agg #[]))).run prog n=.ok () b/\GQ w tb mb w.heap.size a 1 b/\∀k,w.heap.size<=k->k<(w.alloc (.map #[] 0)).heap.size->k≠w.heap.size->n.heap[k]?=(w.alloc (.map #[] 0)).heap[k]?):=GQ.next h v (nm:=AU) rfl y.1 y.2.1;clear l u h;go_enter func19,ntmps19
 go_upto_region 2 with(go_at_call 27;refine Calls.mono z ?_;rintro e n ⟨R,rfl,b,p,q,_⟩)
 have d:0≠mb:=fun e=>by obtain⟨S,c,G⟩:=F.F6;have J:=(hp 0 BH rfl (by decide)).1;rw [e] at J;simp [World.cell?,G] at J
 have r:∀o,b.cell? ⟨0,o,none⟩=w.cell? ⟨0,o,none⟩:=fun o=>World.cell?_of_block (w:=w) (q.2.2.1 0 (l_ jN L) d);have H:Hid (EH b):=fun k f m A=>⟨(r _).trans (hp k f m A).1,(r _).trans (hp k f m A).2⟩
 have B:=h_ q;clear q r hp p z v d E;go_wp2_with (refine iN rfl _ rfl rfl H ?_)
 go_loopw [13] (fun i wr=>∃k:Nat,k<=12/\i=.int .i64 (k:Int)/\Hid (GQ w tb mb w.heap.size a (k+1) wr)) (fun i _=>12-(RowKit.intOf i).toNat)
 case atStart=>exact⟨0,by omega,rfl,B⟩
 case round =>
  obtain⟨k,m,rfl,K⟩:=hrel;by_cases s:k<12
  ·have T:decide ((k:Int)<12)=true:=by simp;omega
   obtain⟨f,t⟩:∃f,AO[k]?=some f:=⟨_,g_ (show k<Pl.AO.length from Nat.lt_trans s (by decide))⟩
   have g:oF[k+1]?=some f:=by unfold oF;rw [List.getElem?_cons_succ,List.getElem?_take_of_lt s];exact t
   have O:=fun w=>YF w k f t s;have P:Hid (∀o,Calls prog 27 #[.pointer (some ⟨tb,0,none⟩),.string ⟨f.toArray⟩] (wr.alloc o) fun e n=>∃i:Nat,e=.returned (.int .i64 (i:Int))/\∃b,(Instr.mapUpdate 58 (.map (some w.heap.size)) (.int .i64 (i:Int)) (.iface 86 (.int .i64 (k:Int)))).run prog n=.ok () b/\GQ w tb mb w.heap.size a (k+2) b/\∀k,w.heap.size<=k->k<(wr.alloc o).heap.size->k≠w.heap.size->n.heap[k]?=(wr.alloc o).heap[k]?):=fun o=>GQ.next y.2.2 (K.alloc o) g y.1 y.2.1;clear t g;go_wp2_with (go_at_call 27;refine(P _).mono ?_;rintro e n ⟨U,rfl,V,I,C,_⟩);have D:=h_ C;clear C
   go_roundw
   case rel=>exact⟨k+1,by omega,by go_num,D⟩
   case measure=>simp [RowKit.intOf];omega
  ·obtain rfl:k=12:=by omega
   go_wp2_with fail
   go_ret;exact⟨rfl,K⟩
def xM(gb:Nat):Obj:=.cells #[.map (some gb)] U9
theorem nD(w:World)(tb mb:Nat)(a:List AE)(b:a.length<=1000)(c:a.Nodup)(f:IW w tb mb a)(hp:EH w)(g:8<=w.heap.size):Calls prog 15 #[.pointer (some ⟨tb,0,none⟩)] w fun e h=>∃d,e=.returned (.pointer (some ⟨d.heap.size,0,none⟩))/\h=d.alloc (xM w.heap.size)/\GQ w tb mb w.heap.size a 13 d:=by have i:=h_ (sJ w tb mb a b c f hp g);clear f hp g b c;go_enter func15,ntmps15;go_wp2_with (go_at_call 19;refine Calls.mono i ?_;rintro e d ⟨rfl,j⟩);go_ret;exact⟨d,rfl,rfl,j⟩
def sgA(N:List AE):Sg:=⟨280,402,[],[],[],List.replicate 13 none,N⟩
def sgN(n0:List AE):Sg:=sgA (H8 n0 13)
theorem eO:∀(l:Env)(s:AE)(k:Nat),Pl.find l s=some k->(s,k)∈l
 | [],s,k,h=>by cases h
 | b::r,s,k,h=>by
  unfold Pl.find at h
  cases a:Pl.find r s with
  | some j =>rw [a] at h;obtain rfl:=i_ h;exact List.mem_cons_of_mem _ (eO r s j a)
  | none =>
   rw [a] at h;by_cases e:b.1=s
   ·simp only [if_pos e,o_] at h;rw [<- e,<-h];exact List.mem_cons_self ..
   ·simp only [if_neg e] at h
    cases h
theorem l8:∀b∈Pl.AW.globals,AO[b.2]?=some b.1/\b.1∈oF/\(List.replicate 13 (none:Option (Nat×Nat)))[b.2]?=some none/\Pl.AW.places[b.2]?=some (.AZ b.1):=by decide
theorem zO:∀a∈oF,(Pl.find Pl.AW.globals a).isSome=true:=by decide
theorem aDJ{N:List AE}{D:DataW Value}(g:Tidy D)(d:N.Nodup)(h:∀(j:Nat)(c:AE),j<13->oF[j]?=some c->∃k:Nat,N[k]?=some c/\Maps.has D (.int .i64 (k:Int))=true/\∀z,D.atKey (.int .i64 (k:Int)) z=.held (aL2 j))(u:∀k:Nat,Maps.has D (.int .i64 (k:Int))=true->∃(j:Nat)(c:AE),j<13/\oF[j]?=some c/\N[k]?=some c):AC D (sgA N) AW:=by
 have q:∀{k j:Nat} {c:AE},N[k]?=some c->N[j]?=some c->k=j:=fun y p=>by have I:=cV d y;have J:=cV d p;omega
 have l:∀{c:AE},c∈oF->∃j,j<13/\oF[j]?=some c:=fun A=>by obtain⟨j,f⟩:=List.getElem?_of_mem A;have:=(s_ f).1;rw [aAQ] at this;exact⟨j,this,f⟩
 refine⟨g,fun k c i m n=>?_,fun k c m n=>?_,fun k m=>?_,fun c i n=>?_,fun a b i B C=>?_⟩
 ·obtain⟨r,o,v,w⟩:=l8 _ (eO _ _ _ n);obtain⟨j,f,e⟩:=l o;obtain⟨E,s,F,G⟩:=h j c f e;obtain rfl:=q m s;refine⟨F,aL2 j,.AZ c,G,w,?_⟩
  cases j with
  | zero =>obtain rfl:AU=c:=i_ e;exact .EC
  | succ j =>
   refine .AZ j c ?_ (by omega);have:(AU::Pl.AO.take 12)[j+1]?=some c:=e
   rwa [List.getElem?_cons_succ,List.getElem?_take_of_lt (by omega)] at this
 ·cases H:Maps.has D (.int .i64 (k:Int)) with
  | false=>rfl
  | true =>
   obtain⟨j,x,_,p,t⟩:=u k H;obtain rfl:c=x:=i_ (m.symm.trans t);have:=zO c (q_ p);rw [n] at this
   cases this
 ·obtain⟨j,x,_,p,t⟩:=u k m;exact(s_ t).1
 ·obtain⟨r,o,v,w⟩:=l8 _ (eO _ _ _ n);obtain⟨j,f,e⟩:=l o;obtain⟨E,s,_⟩:=h j c f e;exact⟨q_ s,v⟩
 ·obtain⟨r,_⟩:=l8 _ (eO _ _ _ B);obtain⟨o,_⟩:=l8 _ (eO _ _ _ C);exact i_ (r.symm.trans o)
theorem zP{a:List AE}{D:DataW Value}(h:GI w gb a 13 D):AC D (sgN a) AW:=aDJ h.tidy h.nodup h.yes h.no
theorem X4{w0 w1 w2:World}{N:List AE}{D:DataW Value}(f:Below w0.heap.size w0 w1)(a:Gs w0 (fun _=>False))(hp:EH w0)(n:w0.cell? ⟨2,0,none⟩=some (.iface 159 (.agg #[.pointer (some ⟨8,65,none⟩)])))(q:GE w0)(x:w0.heap.size<=mb)(y:tb≠mb)(z:tb<w1.heap.size)(A:mb<w1.heap.size)(s:IW w2 tb mb N)(B:w2.ownsMap prog 3 heldE w1.heap.size 13 D)(C:AC D (sgA N) AW)(E:∀k,k<w1.heap.size->k≠mb->w2.heap[k]?=w1.heap[k]?)(F:w2.os=w1.os)(G:w2.tape=w1.tape)(H:w2.output=w1.output)(I:w1.heap.size<w2.heap.size) :Wd (fun k=>k=mb\/k=w1.heap.size) (w2.alloc (xM w1.heap.size)) (sgA N) tb mb w2.heap.size w1.heap.size AW/\Stp (fun _=>False) w0 (fun k=>k=mb\/k=w1.heap.size) (w2.alloc (xM w1.heap.size)):=by
 have t:(w2.alloc (xM w1.heap.size)).ownsMap prog 3 heldE w1.heap.size 13 D:=by obtain⟨J,c,d,r⟩:=B;exact⟨J,c,(k_ I).trans d,r⟩
 have h:(w2.alloc (xM w1.heap.size)).heap.size=w2.heap.size+1:=by simp
 have K:=f.size;have l:Stp (fun _=>False) w0 (fun k=>k=mb\/k=w1.heap.size) (w2.alloc (xM w1.heap.size)):=by refine⟨F.trans f.os,G.trans f.tape,H.trans f.output,by rw [h];omega,fun k w _=>⟨?_,fun e=>by omega⟩⟩;rw [k_ (show k<w2.heap.size by omega),E k (by omega) (by omega)];exact f.block k w
 have m:IW (w2.alloc (xM w1.heap.size)) tb mb N:=s.keep (k_ s.lt.1) (k_ s.lt.2);refine⟨⟨⟨m,⟨rfl,List.nodup_nil,fun i b p d=>by cases d⟩,.inl rfl,fun e=>by omega,fun k w=>by rw [h];omega⟩,heap_alloc_new w2 _,fun e=>by omega,⟨D,t,C⟩,.inr rfl,by omega,⟨rfl,List.nodup_nil,fun i b p d=>by cases d⟩,⟨rfl,List.nodup_nil,fun i b p d=>by cases d⟩,⟨rfl,fun i j c v=>?_,fun i g o p v=>?_⟩,a.AQ l,hp.AQ a l,(bY a l kT).trans n,?_,rfl,rfl⟩,l⟩
 ·have:=q_ v;have e:=List.eq_of_mem_replicate this
  cases e
 ·have:=q_ v;have e:=List.eq_of_mem_replicate this
  cases e
 ·obtain⟨u,L,M⟩:=q;exact⟨u,(bY a l kU).trans L,M⟩
theorem new_wd{w0 w1 w2:World}{h:List AE}(j:Below w0.heap.size w0 w1)(a:Gs w0 (fun _=>False))(hp:EH w0)(b:w0.cell? ⟨2,0,none⟩=some (.iface 159 (.agg #[.pointer (some ⟨8,65,none⟩)])))(c:GE w0)(d:w0.heap.size<=mb)(e:tb≠mb)(f:tb<w1.heap.size)(g:mb<w1.heap.size)(l:GQ w1 tb mb w1.heap.size h 13 w2) :Wd (fun k=>k=mb\/k=w1.heap.size) (w2.alloc (xM w1.heap.size)) (sgN h) tb mb w2.heap.size w1.heap.size AW/\Stp (fun _=>False) w0 (fun k=>k=mb\/k=w1.heap.size) (w2.alloc (xM w1.heap.size)):=by obtain⟨m,⟨D,i⟩,n,_,o,p,q,r,_⟩:=l;exact X4 j a hp b c d e f g m i.own (zP i) n o p q r
end
end Go.Proofs.YtieooapcfpimlaaGreatDoor
