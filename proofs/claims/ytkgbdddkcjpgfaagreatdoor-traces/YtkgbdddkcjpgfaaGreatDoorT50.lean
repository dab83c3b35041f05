import Derived.Test.YtkgbdddkcjpgfaaGreatDoorT45
import Derived.Test.YtkgbdddkcjpgfaaGreatDoorT49
namespace Go.Proofs.YtkgbdddkcjpgfaaGreatDoor
set_option maxHeartbeats 4000000
set_option maxRecDepth 100000
open Go.Proofs.Tryz
open Pl (PW PS PF SR AE PO AW A8)
section
open Go.RowKit Go.Lib Go.Maps
variable {M:Nat->Prop} {w w0:World} {tb mb sb gb k n R:Nat}
def TIn:TypeId:=41
def oE(w:World)(b:ByteArray)(n:Int):World:=(w.alloc (.cells #[.string b,.int .i64 n] TIn)).alloc (.cells #[.int .i64 0,.string ⟨#[]⟩,.string ⟨#[]⟩] FZ)
def U8(w:World)(R:Nat)(c:Int)(o t:ByteArray):World:=((w.setCell ⟨R,0,none⟩ (.int .i64 c)).setCell ⟨R,1,none⟩ (.string o)).setCell ⟨R,2,none⟩ (.string t)
theorem ZF(w:World)(b:ByteArray)(n:Int):(oE w b n).heap[w.heap.size]?=some (.cells #[.string b,.int .i64 n] TIn (0,0))/\(oE w b n).heap[w.heap.size+1]?=some (.cells #[.int .i64 0,.string ⟨#[]⟩,.string ⟨#[]⟩] FZ (0,0))/\(oE w b n).heap.size=w.heap.size+2/\Below w.heap.size w (oE w b n):=by refine⟨(k_ (by simp)).trans (heap_alloc_new w _),?_,by simp [oE],b_.alloc (by simp) _⟩;have:=heap_alloc_new (w.alloc (.cells #[.string b,.int .i64 n] TIn)) (.cells #[.int .i64 0,.string ⟨#[]⟩,.string ⟨#[]⟩] FZ);rw [show(w.alloc (.cells #[.string b,.int .i64 n] TIn)).heap.size=w.heap.size+1 from by simp] at this;exact this
theorem gS(w:World)(r tb:Value)(b:ByteArray)(n:Int)(c:Nat)(Q:World->Prop)
  (l:∃T x,r=.iface T x) (m:∃o,tb=.pointer o)
  (h:Calls prog 48 #[.agg #[.string b,.int .i64 n],tb] (oE w b n) fun e f=>∃v p,e=.returned (.tuple #[v,aY p (c:Int)])/\Q f)
  (s:∀f,Q f->GT f/\f.heap[w.heap.size+1]?=some (.cells #[.int .i64 0,.string ⟨#[]⟩,.string ⟨#[]⟩] FZ (0,0))) :
  Calls prog 74 #[r,.agg #[.string b,.int .i64 n],tb] w fun e f=>∃a d,e=.returned (.agg #[.int .i64 (c:Int),.string ⟨#[]⟩,.string ⟨#[]⟩])/\Q a/\Below a.heap.size a d/\f=U8 d (w.heap.size+1) c ⟨#[]⟩ ⟨#[]⟩:=by
 have q:=h_ h;have u:=h_ s;obtain⟨T,x,rfl⟩:=l;obtain⟨o,rfl⟩:=m;clear h s;go_enter func74,ntmps74
 go_upto_region 2 with(go_at_call 48;refine Calls.mono q ?_;rintro e a ⟨v,p,rfl,t⟩)
 obtain⟨i,g⟩:=u.out a t;have j:=h_ (aCA p c a i);have y:Hid (∀d,Below a.heap.size a d->d.heap[w.heap.size+1]?=some (.cells #[.int .i64 0,.string ⟨#[]⟩,.string ⟨#[]⟩] FZ (0,0))):=fun d z=>(z.block _ (aB g)).trans g;clear i g;unfold aY at j ⊢;go_wp2_with (go_at_call 42;refine Calls.mono j ?_;rintro e d ⟨rfl,k⟩;obtain⟨A,B,C,D,E,F,G,H,I⟩:=FA (y d k))
 (try simp only [Exit.inBlock,Exit.then])
 refine bodyPost_ret (v:=.agg #[.int .i64 (c:Int),.string ⟨#[]⟩,.string ⟨#[]⟩]) ?_ rfl ?_
 ·rw [aO rfl]
  go_simp
  try rfl
 exact⟨a,d,rfl,t,k,rfl⟩
theorem Tryz.runM(b:Nat)(w:World):(Go.method 638 73 (.pointer (some ⟨b,0,none⟩)) "Run").run prog w=.ok (256,.pointer (some ⟨b,0,none⟩)) w:=by kernel_rfl
theorem Tryz.runN(b:Nat)(w:World):(Go.nilAhead 638 73 (.pointer (some ⟨b,0,none⟩)) "Run").run prog w=.ok (some false) w:=by kernel_rfl
theorem Tryz.YZ:Enters 256:=enters_of func256 (by kernel_rfl) rfl
theorem sP(w:World)(l:Nat)(tb:Value)(b:ByteArray)(n:Int)(o t:ByteArray)(c:Nat)(B:Value->World->Prop)(z:World->Prop)(C:∃o,tb=.pointer o)
  (m:Calls prog 48 #[.agg #[.string b,.int .i64 n],tb] (oE w b n) fun e a=>∃d,e=.returned (.tuple #[d,.nilIface])/\B d a)
  (p:∀d a,B d a->(∃T x,d=.iface T x)/\a.heap[w.heap.size]?=some (.cells #[.string b,.int .i64 n] TIn (0,0)))
  (f:∀d g,B d g->Calls prog 256 #[.pointer (some ⟨l,0,none⟩),d,.int .i64 n] g fun e a=>∃j,e=.returned (.tuple #[.string o,.string t,j])/\(Calls prog 42 #[j] a fun e h=>e=.returned (.int .i64 (c:Int))/\Below a.heap.size a h)/\z a)
  (H:∀a,z a->a.heap[w.heap.size+1]?=some (.cells #[.int .i64 0,.string ⟨#[]⟩,.string ⟨#[]⟩] FZ (0,0))) :
  Calls prog 74 #[.iface 73 (.pointer (some ⟨l,0,none⟩)),.agg #[.string b,.int .i64 n],tb] w fun e a=>∃k A,e=.returned (.agg #[.int .i64 (c:Int),.string o,.string t])/\z k/\Below k.heap.size k A/\a=U8 A (w.heap.size+1) c o t:=by
 have D:=h_ m;have I:=h_ H;have E:=h_ p;have q:=h_ f;have L:=Tryz.runM l;have J:=Tryz.runN l;have F:=Tryz.YZ;unfold Enters at F;obtain⟨M,rfl⟩:=C;clear m H p f;go_enter func74,ntmps74
 go_upto_region 2 with(go_at_call 48;refine Calls.mono D ?_;rintro e g ⟨d,rfl,r⟩)
 obtain⟨⟨T,x,rfl⟩,s⟩:=E.out d g r;have N:g.cell? ⟨w.heap.size,1,none⟩=some (.int .i64 n):=aA s 1;have K:Hid (Calls prog 256 #[.pointer (some ⟨l,0,none⟩),.iface T x,.int .i64 n] g fun e a=>∃j,e=.returned (.tuple #[.string o,.string t,j])/\Hid (Calls prog 42 #[j] a fun e h=>e=.returned (.int .i64 (c:Int))/\Hid (Below a.heap.size a h))/\Hid (z a)):=q.out _ g r;clear s
 go_wp2_with (first
  | (go_at_call 256;refine Calls.mono K ?_;rintro e k ⟨j,rfl,G,u⟩)
  | (go_at_call 42;refine Calls.mono G ?_;rintro e A ⟨rfl,y⟩;have i:=I.out k u;obtain⟨O,P,Q,R,S,U,V,W,X⟩:=FA ((y.block _ (aB i)).trans i);clear i))
 (try simp only [Exit.inBlock,Exit.then])
 refine bodyPost_ret (v:=.agg #[.int .i64 (c:Int),.string o,.string t]) ?_ rfl ?_
 ·rw [aO rfl]
  go_simp
  try rfl
 exact⟨k,A,rfl,u,y,rfl⟩
def AnsP(M:Nat->Prop)(w:World)(s:Sg)(tb mb sb gb:Nat)(r:PW×PO)(e:Ending)(w':World):Prop :=e=.returned (oH r.2.code r.2.out r.2.val)/\∃M' s',Stp M w M' w'/\(Sg.Le s s'/\LP w s s')/\s'.ns.length<=s.ns.length+300/\Wd M' w' s' tb mb sb gb r.1
def ZU(tb mb sb gb:Nat):Prop:=∀(M:Nat->Prop)(w:World)(s:Sg)(t m:Nat)(W:PW)(b:ByteArray)(n:Int),Wd M w s tb mb sb gb W->WW W t->OV W m->m+1001000<=6500000000000000000->s.ns.length+300<=BS ->
 Calls prog 74 #[.iface 73 (.pointer (some ⟨sb,0,none⟩)),.agg #[.string b,.int .i64 n],.pointer (some ⟨tb,0,none⟩)] w fun e w'=>AnsP M w s tb mb sb gb (Pl.answer W (b.data.toList,n)) e w'
theorem set3at{X:World}{o:Nat}{cur:Array Value}{T:TypeId}(h:X.heap[R]?=some (.cells cur T (0,0)))(c:o+2<cur.size):∃d e f,X.cell? ⟨R,o,none⟩=some d/\X.frozen? ⟨R,o,none⟩=false /\
  (∀a:Value,(X.setCell ⟨R,o,none⟩ a).cell? ⟨R,o+1,none⟩=some e/\(X.setCell ⟨R,o,none⟩ a).frozen? ⟨R,o+1,none⟩=false) /\
  (∀a b:Value,((X.setCell ⟨R,o,none⟩ a).setCell ⟨R,o+1,none⟩ b).cell? ⟨R,o+2,none⟩=some f/\((X.setCell ⟨R,o,none⟩ a).setCell ⟨R,o+1,none⟩ b).frozen? ⟨R,o+2,none⟩=false):=by
 refine⟨cur[o]'(by omega),cur[o+1]'(by omega),cur[o+2]'c,(aA h o).trans (Array.getElem?_eq_getElem _),aF h o,fun a=>⟨?_,aF (aD h o a) _⟩,fun a b=>⟨?_,aF (aD (aD h o a) (o+1) b) _⟩⟩
 ·rw [aA (aD h o a) (o+1),Array.getElem?_setIfInBounds,if_neg (by omega)];exact Array.getElem?_eq_getElem _
 ·rw [aA (aD (aD h o a) (o+1) b) (o+2),Array.getElem?_setIfInBounds,if_neg (by omega),Array.getElem?_setIfInBounds,if_neg (by omega)];exact Array.getElem?_eq_getElem _
def RE(w:World)(R o:Nat)(po:PO):World:=((w.setCell ⟨R,o,none⟩ (.int .i64 (po.code:Int))).setCell ⟨R,o+1,none⟩ (.string ⟨po.out.toArray⟩)).setCell ⟨R,o+2,none⟩ (.string ⟨po.val.toArray⟩)
structure VD(M0:Nat->Prop)(w0:World)(s0:Sg)(wr:World)(M:Nat->Prop)(s:Sg)(tb mb sb gb g:Nat)(ins:List (ByteArray×Int))(k:Nat):Prop where
 wd:Wd M wr s tb mb sb gb (Pl.AF AW ((ins.take k).map B5)).1
 AQ:Stp M0 w0 M wr
 ns:s.ns.length<=313+300*k
 le:Sg.Le s0 s/\LP w0 s0 s
 ng:¬M g
 gw:w0.heap.size<=g
 row:∃cur,wr.heap[g]?=some (.cells cur FZ (0,0))/\cur.size=ins.length*3/\∀(j:Nat)(o:PO),(Pl.AF AW ((ins.take k).map B5)).2[j]?=some o->cur[j*3]?=some (.int .i64 (o.code:Int))/\cur[j*3+1]?=some (.string ⟨o.out.toArray⟩)/\cur[j*3+2]?=some (.string ⟨o.val.toArray⟩)
theorem VD.next{M0 M2:Nat->Prop}{wr w2:World}{D s n:Sg}{g:Nat}{ins:List (ByteArray×Int)}{i:ByteArray×Int}{o1:Obj}(h:VD M0 w0 D wr M s tb mb sb gb g ins k)(hi:ins[k]?=some i)(H:8<=w0.heap.size)
  (E:Stp M (wr.alloc o1) M2 w2) (I:n.ns.length<=s.ns.length+300) (F:Sg.Le s n/\LP (wr.alloc o1) s n) (J:Wd M2 w2 n tb mb sb gb (Pl.answer (Pl.AF AW ((ins.take k).map B5)).1 (B5 i)).1) :
  VD M0 w0 D (RE w2 g (k*3) (Pl.answer (Pl.AF AW ((ins.take k).map B5)).1 (B5 i)).2) M2 n tb mb sb gb g ins (k+1):=by
 have u:n.ns.length<=313+300*(k+1):=t_ I (t_ (Nat.add_le_add_right h.ns 300) (Nat.le_of_eq (by rw [Nat.mul_succ,Nat.add_assoc])));obtain⟨v,G,K,L⟩:=h.row;have w:=aB G;have N:=(s_ hi).1;have y:Below wr.heap.size wr (wr.alloc o1):=b_;obtain⟨O,P⟩:=((Stp.AA (M:=M) y).trans E).block g w h.ng;have p:=O.trans G;generalize z:(Pl.answer (Pl.AF AW ((ins.take k).map B5)).1 (B5 i)).2=d;have f:w2.grownBy (RE w2 g (k*3) d) (some g):=aC (aC (aE w2 g _ _) (aE _ g _ _)) (aE _ g _ _);have a:=h.AQ.trans ((Stp.AA (M:=M) y).trans E);have A:=h.gw;have l:(Pl.AF AW ((ins.take k).map B5)).2.length=k:=by rw [Pl.H4,List.length_map,List.length_take];omega
 have m:∀j,j<w0.heap.size->j<w2.heap.size:=fun j b=>l_ b a.size
 have q:LH w2 (RE w2 g (k*3) d):=by
  refine⟨f.size,fun j x b Q=>(f.block j (aB b) (fun e=>?_)).trans b,fun j b=>f.block j (m j (by omega)) (fun e=>?_)⟩
  ·have:=i_ e;subst this;rw [p] at b;exact Q v FZ _ (.inl rfl) (i_ b).symm
  ·have:=i_ e;omega
 have r:Stp M0 w0 M2 (RE w2 g (k*3) d):=by refine⟨f.os.trans a.os,f.tape.trans a.tape,f.output.trans a.output,t_ a.size f.size,fun j b R=>?_⟩;obtain⟨S,T⟩:=a.block j b R;exact⟨(f.block j (m j b) (fun e=>by have:=i_ e;omega)).trans S,T⟩
 have B:Wd M2 (RE w2 g (k*3) d) n tb mb sb gb (Pl.AF AW ((ins.take (k+1)).map B5)).1:=by rw [iI hi];exact J.FQ q
 have t:=aD (aD (aD p (k*3) (.int .i64 (d.code:Int))) (k*3+1) (.string ⟨d.out.toArray⟩)) (k*3+2) (.string ⟨d.val.toArray⟩);refine⟨B,r,u,⟨h.le.1.trans F.1,h.le.2.trans F.2 (t_ h.AQ.size y.size)⟩,P,A,_,t,by simpa using K,fun j o b=>?_⟩
 ·rw [iI hi,z] at b;have c:((Pl.AF AW ((ins.take k).map B5)).2++[d])[j]?=some o:=b;simp only [Array.getElem?_setIfInBounds,Array.size_setIfInBounds];rcases Nat.lt_trichotomy j k with C | rfl | C
  ·rw [List.getElem?_append_left (by omega)] at c;obtain⟨U,V,W⟩:=L j o c;refine⟨?_,?_,?_⟩
   ·rw [if_neg (by omega),if_neg (by omega),if_neg (by omega)];exact U
   ·rw [if_neg (by omega),if_neg (by omega),if_neg (by omega)];exact V
   ·rw [if_neg (by omega),if_neg (by omega),if_neg (by omega)];exact W
  ·rw [List.getElem?_append_right (by omega),l,Nat.sub_self] at c;obtain rfl:d=o:=i_ c;refine⟨?_,?_,?_⟩
   ·rw [if_neg (by omega),if_neg (by omega),if_pos rfl,if_pos (by omega)]
   ·rw [if_neg (by omega),if_pos rfl,if_pos (by omega)]
   ·rw [if_pos rfl,if_pos (by omega)]
  ·rw [List.getElem?_append_right (by omega),l,List.getElem?_eq_none (by simp;omega)] at c
   cases c
theorem VD.out{M0:Nat->Prop}{wr:World}{d s:Sg}{g:Nat}{ins:List (ByteArray×Int)}(h:VD M0 w0 d wr M s tb mb sb gb g ins ins.length):KB wr (.slice (some ⟨g,0,none⟩) ins.length ins.length) (Pl.AF AW (ins.map B5)).2:=by
 obtain⟨e,a,_,b⟩:=h.row;have c:(Pl.AF AW (ins.map B5)).2.length=ins.length:=by rw [Pl.H4,List.length_map]
 rw [List.take_length] at b;refine⟨some ⟨g,0,none⟩,ins.length,by rw [c],by rw [c];exact n_,fun k o f=>?_⟩;obtain⟨i,j,l⟩:=b k o f;exact⟨g,rfl,aB a,(aA a _).trans i,(aA a _).trans j,(aA a _).trans l⟩
theorem scr_in{v:Value}{ins:List (ByteArray×Int)}(h:F8 w v ins):JF w v ins:=by obtain⟨b,a,e,c,d⟩:=h;refine⟨b,a,e,c,fun k i f=>?_⟩;obtain⟨g,j,l,m,n⟩:=d k i f;exact⟨g,0,j,l,by rw [Nat.zero_add];exact m,by rw [Nat.zero_add];exact n⟩
theorem WV{w1:World}{M1:Nat->Prop}{v:Value}{ins:List (ByteArray×Int)}(h:JF w v ins)(f:Stp M w M1 w1)(q:∀k,¬M k):JF w1 v ins/\(ins≠[]->∀g b n c,v=.slice (some ⟨g,b,none⟩) n c->¬M1 g):=by
 obtain⟨y,j,e,z,s⟩:=h;refine⟨⟨y,j,e,z,fun k i l=>?_⟩,fun m g b n c o=>?_⟩
 ·obtain⟨g,b,p,d,A,B⟩:=s k i l;have t:=(f.block g d (q g)).1;exact⟨g,b,p,l_ d f.size,(World.cell?_of_block (w:=w) t).trans A,(World.cell?_of_block (w:=w) t).trans B⟩
 ·obtain⟨i,l⟩:∃i,ins[0]?=some i:=by
   cases ins with
   | nil=>exact absurd rfl m
   | cons a r=>exact⟨a,rfl⟩
  obtain⟨u,x,p,d,_⟩:=s 0 i l;rw [e,p] at o;simp only [Value.slice.injEq,o_,Addr.mk.injEq,and_true] at o;obtain rfl:=o.1.1;exact(f.block u d (q u)).2
def GK:Nat:=5870000000000
theorem SV(ins:List (ByteArray×Int))(b:k<=ins.length):∃t,WW (Pl.AF AW ((ins.take k).map B5)).1 t/\OV (Pl.AF AW ((ins.take k).map B5)).1 (13+1001000*k):=by have:=O2 ((ins.take k).map B5) AW 13 13 vP ⟨by decide,by decide,fun l a=>by have e:Pl.AW.AG=[]:=rfl;rw [e] at a;cases a⟩;rw [List.length_map,List.length_take,Nat.min_eq_left b] at this;exact this
theorem aC5(b:k<=n)(a:n<=GK):13+1001000*k+1001000<=6500000000000000000:=by unfold GK at a;omega
theorem XZ{a:Nat}(h:a<=313+300*k)(c:k<=n)(b:n<=GK):a+300<=BS:=by unfold BS;unfold GK at b;omega
theorem p_runS(l:Nat->Prop)(w:World)(m:Sg)(tb mb h u:Nat)(v:Value)(ins:List (ByteArray×Int))(hA:ZU tb mb h u)(hW:Wd l w m tb mb h u AW)(E:m.ns.length<=313)(hS:JF w v ins)(F:ins≠[]->∀g a n c,v=.slice (some ⟨g,a,none⟩) n c->¬l g)(G:ins.length<=GK) :Calls prog 44 #[.iface 73 (.pointer (some ⟨h,0,none⟩)),v,.pointer (some ⟨tb,0,none⟩)] w fun e O=>∃S M' s',e=.returned S/\VD l w m O M' s' tb mb h u w.heap.size ins ins.length/\KB O S (Pl.AF AW (ins.map B5)).2/\S=.slice (some ⟨w.heap.size,0,none⟩) ins.length ins.length:=by
 obtain⟨i0,T,U,V,W⟩:=info_parts Tryz.YL;have HA:=h_ hA;have P:Hid (Wd l w m tb mb h u AW/\m.ns.length<=313):=⟨hW,E⟩
 obtain⟨ao,ak,rfl,ag,p⟩:=hS
 have HC:=(show Hid (∀(k:Nat)(i:ByteArray×Int),ins[k]?=some i->∃g a,ao=some ⟨g,a,none⟩/\g<w.heap.size/\¬l g/\w.cell? ⟨g,a+k*2,none⟩=some (.string i.1)/\w.cell? ⟨g,a+k*2+1,none⟩=some (.int .i64 i.2)) from fun k i B=>by
  obtain⟨g,a,e,H,X,Y⟩:=p k i B
  exact⟨g,a,e,H,F (fun e0=>by rw [e0] at B;cases B) g a _ _ (by rw [e]),X,Y⟩)
 have ah:¬((ins.length:Int)<0):=by omega
 have HL:=h_ G;have hL:ins.length<=5870000000000:=G;clear hA hW p F E G;go_enter func44,ntmps44;go_wp2_with (first | (at_make;refine wpList_make_full _ rfl _ _ 28 rfl w.heap.size 43 i0 (.agg #[.int .i64 0,.string ⟨#[]⟩,.string ⟨#[]⟩]) 3 underlying28 T U V .i64 .i64 (ins.length:Int) (ins.length:Int) ins.length rfl rfl rfl rfl (by rw [W];omega) (by unfold maxLen;omega) n_ ?_;intro w1 q f))
 have C:Hid (VD l w m w1 l m tb mb h u w.heap.size ins 0):=by
  have I:Below w.heap.size w w1:=cS f;refine⟨P.1.mv (Mv.below I),Stp.AA I,P.2,⟨Sg.Le.refl _,LP.refl _ _⟩,fun hm=>Nat.lt_irrefl _ (P.1.CY.mlt _ hm),n_,?_⟩;rcases q.2 with⟨Q,_⟩ | ⟨g,ai,d,Q,_,Z,_,_,aa,_⟩
  ·cases Q
  ·simp only [Value.slice.injEq,o_,Addr.mk.injEq,true_and,and_true] at Q;obtain⟨e1,e2⟩:=Q;subst e1;subst e2;exact⟨d,Z,aa,fun j o hj=>by simp [Pl.AF] at hj⟩
 clear q f
 go_loopw [15] (fun i wr=>∃(k:Nat)(y:Nat->Prop)(z:Sg),k<=ins.length/\i=.int .i64 (k:Int)/\Hid (VD l w m wr y z tb mb h u w.heap.size ins k)) (fun i _=>ins.length-(RowKit.intOf i).toNat)
 case atStart=>exact⟨0,l,m,Nat.zero_le _,rfl,C⟩
 case round =>
  obtain⟨k,y,z,hk,rfl,x⟩:=hrel;by_cases ab:k<ins.length
  ·obtain⟨i,B⟩:∃i,ins[k]?=some i:=⟨ins[k],g_ ab⟩
   obtain⟨g,a,rfl,Z,ac,J,K⟩:=HC.out k i B;have D:=(x.AQ.block g Z ac).1;have c0:wr.cell? ⟨g,a+k*2,none⟩=some (.string i.1):=(World.cell?_of_block (w:=w) D).trans J;have c1:wr.cell? ⟨g,a+k*2+1,none⟩=some (.int .i64 i.2):=(World.cell?_of_block (w:=w) D).trans K;have HX:=h_ B
   have L:=(show Hid (∀o:Obj,Calls prog 74 #[.iface 73 (.pointer (some ⟨h,0,none⟩)),.agg #[.string i.1,.int .i64 i.2],.pointer (some ⟨tb,0,none⟩)] (wr.alloc o) fun e O=>AnsP y (wr.alloc o) z tb mb h u (Pl.answer (Pl.AF AW ((ins.take k).map B5)).1 (B5 i)) e O) from fun o=>by
    obtain⟨t,ad,ae⟩:=SV ins hk
    exact HA.out y (wr.alloc o) z t _ _ i.1 i.2 (x.wd.mv (Mv.below b_)) ad ae (aC5 hk HL) (XZ x.ns hk HL))
   have HN:Hid (∀(o:Obj)(r:World)(s:Nat->Prop)(A:Sg),Stp y (wr.alloc o) s r->A.ns.length<=z.ns.length+300->(Sg.Le z A/\LP (wr.alloc o) z A)->Wd s r A tb mb h u (Pl.answer (Pl.AF AW ((ins.take k).map B5)).1 (B5 i)).1->VD l w m (RE r w.heap.size (k*3) (Pl.answer (Pl.AF AW ((ins.take k).map B5)).1 (B5 i)).2) s A tb mb h u w.heap.size ins (k+1)):=fun o r s A H X G Y=>x.next HX P.1.gs.size H X G Y
   have HB:=(show Hid (∀(o:Obj)(r:World)(s:Nat->Prop),Stp y (wr.alloc o) s r->∃d,r.heap[w.heap.size]?=some (.cells d FZ (0,0))/\k*3+2<d.size) from fun o r s H=>by
    obtain⟨d,N,R,_⟩:=x.row;have hB:Below wr.heap.size wr (wr.alloc o):=b_
    exact⟨d,(((Stp.AA (M:=y) hB).trans H).block _ (aB N) x.ng).1.trans N,by rw [R];omega⟩)
   have aj:(k:Int)<(ins.length:Int):=by omega
   obtain⟨b,n⟩:=i;dsimp only at c0 c1 L;clear B J K D x C;go_wp2_with (go_at_call 74;refine(L _).mono ?_;rintro e r ⟨rfl,s,A,k1,kl,k3,k4⟩;obtain⟨d,N,R⟩:=HB.out _ r s k1;obtain⟨x0,x1,x2,t0,u0,r1,r2⟩:=set3at N R;have af:=(show Hid (VD _ _ _ _ _ _ _ _ _ _ _ _ _) from HN.out _ r s A k1 k3 kl k4);clear k1 kl k3 k4 N R HN;generalize (Pl.answer (Pl.AF AW ((ins.take k).map B5)).1 (B5 (b,n))).2=po at *;unfold oH)
   go_roundw
   case rel=>exact⟨k+1,s,A,by omega,by go_num,af⟩
   case measure=>simp [RowKit.intOf];omega
  ·obtain rfl:k=ins.length:=by omega
   have HO:=(show Hid (KB wr (.slice (some ⟨w.heap.size,0,none⟩) ins.length ins.length) (Pl.AF AW (ins.map B5)).2/\VD l w m wr y z tb mb h u w.heap.size ins ins.length) from⟨x.out.out,x⟩)
   clear x C;go_wp2_with fail;go_ret;exact⟨_,y,z,rfl,HO.2,HO.1,rfl⟩
theorem sB(w:World)(a:Nat)(g b h i j k:Value)(d:w.heap[a]?=some (.cells #[g,b,h,i,j,k] BT (0,0)))(l:∃T x,b=.iface T x)(Q:Value->World->Prop)(f:Calls prog 128 #[.pointer (some ⟨a,0,none⟩)] w fun e c=>∃v,e=.returned v/\Q v c) :Calls prog 82 #[.pointer (some ⟨a,0,none⟩)] w fun e c=>∃v,e=.returned v/\Q v c:=by have o:w.cell? ⟨a,1,none⟩=some b:=aA d 1;have m:=h_ f;obtain⟨T,x,rfl⟩:=l;clear f d;go_enter func82,ntmps82;go_wp2_with (go_at_call 128;refine Calls.mono m ?_;rintro e p ⟨v,rfl,n⟩);go_ret;exact⟨v,rfl,n⟩
def KA(M:Nat->Prop)(w:World)(s:Sg)(tb mb sb gb rb:Nat)(r:SR)(v:Value)(w':World):Prop:=AS M w s tb mb sb gb rb r (.returned v) w'
theorem dW{s:Sg}{rb:Nat}{r:SR}{f:FuncId}{args:Array Value}(h:Calls prog f args w fun e a=>AS M w0 s tb mb sb gb rb r e a):Calls prog f args w fun e a=>∃v,e=.returned v/\KA M w0 s tb mb sb gb rb r v a :=h.mono (fun e a b=>by obtain⟨v,rfl⟩:=b.one;exact⟨v,rfl,b⟩)
theorem aDA(M:Nat->Prop)(w:World)(s:Sg)(tb mb o J j t m:Nat)(W:PW)(S:PS)(hW:Wd M w s tb mb o J W)(hN:G5 s)(T:LO M w s o j S W.out)(ac:WW W t)(U:SW W S t)(V:Sm W S m)(ht:m<=6500000000000000000)(ad:W.out.length<=1000)(X:S.ended=false) :Calls prog 82 #[.pointer (some ⟨j,0,none⟩)] w fun e w'=>∃v,e=.returned v/\KA M w s tb mb o J j (Pl.step W S) v w':=by
 cases hf:S.form with
 | some f =>have hC:=dW (r7 M w s tb mb o J j t W S hW hN T U (t_ V.AB ht) f hf);obtain⟨fv,K,r,kv,I,u,q,_,_⟩:=T.ex;unfold FE at q;rw [hf] at q;exact sB w j _ fv K r kv I u.blk q.1.iface _ hC
 | none =>
  obtain⟨fv,K,r,kv,I,u,q,ae,ho⟩:=T.ex;unfold FE at q;rw [hf] at q;obtain⟨rfl,h⟩:=q;have Y:Pl.step W S=Pl.taken W S:=by unfold Pl.step;rw [hf]
  have af:=U.val hf
  cases l:S.AB with
  | nil =>exfalso;unfold Pl.PS.ended at X;rw [hf,l] at X;simp at X
  | cons fr d =>
   rw [l] at ae;obtain⟨b,aq,C,rfl,ak,D,E,A⟩:=ae;have F:b≠j:=fun e=>ak (by rw [e];exact u.JK);have G:=U.AB.1 fr (by rw [l];simp);have ag:d.length<=6500000000000000000:=by have:=V.AB;rw [l] at this;simp at this;omega
   have ah:=AI.set u.blk 4 C rfl
   have p:∀g,(g=w.setCell ⟨j,4,none⟩ C\/g=(w.setCell ⟨j,4,none⟩ C).drew)->Stp M w M g/\Wd M g s tb mb o J W/\C0 M g o j .nilIface K r C I/\GW M g s C d/\DS M g I W.out:=fun g H=>by
    have Z:AI w j #[.pointer (some ⟨o,0,none⟩),.nilIface,K,r,C,I] g:=by
     rcases H with rfl | rfl
     ·exact ah
     ·exact ah.drew
    have V:=Z.mv u.blk u.JK;exact⟨V.AQ,hW.mv V,⟨Z.blk,u.JK⟩,A.go V.AQ (Sg.Le.refl _),ho.ch Z u.blk⟩
   have ai:W.globals.length<=6500000000000000000:=t_ V.w.globals ht;have ar:=G.form.lnm;rw [Y];have al:=E;obtain⟨T0,x0,au⟩:=E.iface
   cases E with
   | iff a b' c aa _ x y z B am ha h2 h3 he =>
    refine dQ w j b o _ K r I C _ _ _ _ u.blk D F h.iface A.ptr (Tryz.d_ _ _ _ _) (Tryz.Y_ _ _ _ _) Tryz.j_ (fun g H=>?_);obtain⟨n,L,N,O,P⟩:=p g H;have e:Pl.taken W S=⟨0,W,{S with AB:=d}.work (if S.val=Pl.PV.AT false then some z else some y) fr.env⟩:=by unfold Pl.taken;rw [l];dsimp only;rw [B];dsimp only;rw [am];rfl
    rw [e];exact(dW (yF M g s tb mb o J j W {S with AB:=d} fr.env L N O P (he.go n (Sg.Le.refl _)) y z ha (h2.go n (Sg.Le.refl _)) (h3.go n (Sg.Le.refl _)) r S.val h _ rfl)).mono (fun e w' ⟨v,Q,R⟩=>⟨v,Q,AS.after R n⟩)
   | set k aa _ B hn he =>
    refine dQ w j b o _ K r I C _ _ _ _ u.blk D F h.iface A.ptr (Tryz.Z_ _ _ _) (Tryz.X_ _ _ _) Tryz.f_ (fun g H=>?_);obtain⟨n,L,N,O,P⟩:=p g H
    have e:Pl.taken W S=(match Pl.DL W fr.env fr.form.nm with | some i=>⟨0,{W with places:=W.places.set i S.val},{S with AB:=d}.A1 .nothing⟩ | none=>⟨8,W,{S with AB:=d}⟩):=by
     unfold Pl.taken;rw [l];dsimp only;rw [B];dsimp only
     cases Pl.DL W fr.env fr.form.nm<;>rfl
    exact(dW (uO M g s tb mb o J j W {S with AB:=d} fr.env L hN ai N O P (he.go n (Sg.Le.refl _)) fr.form.nm k hn (by omega) r S.val h _ e)).mono (fun e w' ⟨v,Q,R⟩=>⟨v,Q,AS.after R n⟩)
   | define k _ B hn =>
    refine dQ w j b o _ K r I C _ _ _ _ u.blk D F h.iface A.ptr (Tryz.Q7 _ _) (Tryz.Q6 _ _) Tryz.Q9 (fun g H=>?_);obtain⟨n,L,N,O,P⟩:=p g H;have e:Pl.taken W S=⟨0,Pl.bind W fr.form.nm S.val,{S with AB:=d}.A1 .nothing⟩:=by unfold Pl.taken;rw [l];dsimp only;rw [B]
    rw [e];exact(dW (m7 M g s tb mb o J j W {S with AB:=d} L hN ac.globals ai N O P fr.form.nm k hn r S.val h)).mono (fun e w' ⟨v,Q,R⟩=>⟨v,Q,AS.after R n⟩)
   | begin rv aa _ B ab he =>
    refine dQ w j b o _ K r I C _ _ _ _ u.blk D F h.iface A.ptr (Tryz.SI _ _) (Tryz.SH _ _) Tryz.SJ (fun g H=>?_);obtain⟨n,L,N,O,P⟩:=p g H;have an:=G.JY B;obtain⟨f0,aj⟩:∃f0,fr.form.ks[fr.pos]?=some f0:=⟨_,g_ an⟩
    have av:(fr.form.ks.drop (fr.pos+1)).length=fr.form.ks.length-(fr.pos+1):=by simp
    have ao:=G.form.lks
    have e:Pl.taken W S=⟨0,W,(if 0<(fr.form.ks.drop (fr.pos+1)).length then {S with AB:=d}.push {fr with B8:=[],pos:=fr.pos+1} else {S with AB:=d}).work fr.form.ks[fr.pos]? fr.env⟩:=by
     unfold Pl.taken;rw [l];dsimp only;rw [B];dsimp only;by_cases hp:fr.pos+1<fr.form.ks.length
     ·rw [if_pos hp,if_pos (by omega)]
     ·rw [if_neg hp,if_neg (by omega)]
    rw [e];exact(dW (oT M g s tb mb o J j W {S with AB:=d} L ag N O P fr (he.go n (Sg.Le.refl _)) B f0 _ (mD aj) (ab.go n (Sg.Le.refl _)) (by omega) r h.iface _ rfl _ aj)).mono (fun e w' ⟨v,Q,R⟩=>⟨v,Q,AS.after R n⟩)
   | call vv rv aa _ B ap ab he =>
    refine dQ w j b o _ K r I C _ _ _ _ u.blk D F h.iface A.ptr (Tryz.V7 _ _ _) (Tryz.V6 _ _ _) Tryz.V8 (fun g H=>?_);obtain⟨n,L,N,O,P⟩:=p g H;obtain⟨c1,c2,c3⟩:=G.call B;have ao:=G.form.lks
    have e:Pl.taken W S=gZ W {S with AB:=d} fr S.val:=by
     unfold Pl.taken gZ;rw [l];dsimp only;rw [B];dsimp only;by_cases hp:fr.pos=fr.form.ks.length
     ·rw [if_pos hp,if_pos hp]
      cases fr.B8++[S.val]<;>rfl
     ·rw [if_neg hp,if_neg hp]
    rw [e];exact(dW (sA M g s tb mb o J j W ⟨aC2 ac,ad⟩ {S with AB:=d} L ag N O P fr (he.go n (Sg.Le.refl _)) B c2 (ap.go n (Sg.Le.refl _)) (ab.go n (Sg.Le.refl _)) (by omega) c3 r S.val h af)).mono (fun e w' ⟨v,Q,R⟩=>⟨v,Q,AS.after R n⟩)
theorem aB2(M:Nat->Prop)(w:World)(s:Sg)(o j:Nat)(S:PS)(l:AE)(h:LO M w s o j S l):Calls prog 81 #[.pointer (some ⟨j,1,none⟩)] w fun e p=>e=.returned (.bool S.ended)/\w=p:=by
 obtain⟨q,t,u,m,v,d,a,c,_⟩:=h.ex;have y:w.cell? ⟨j,1,none⟩=some q:=aA d.blk 1;have z:w.cell? ⟨j,4,none⟩=some m:=aA d.blk 4;unfold FE at a
 cases g:S.form with
 | some f =>
  rw [g] at a;obtain⟨T,x,rfl⟩:=a.1.iface;have i:Hid (S.ended=false):=show S.ended=false from by unfold Pl.PS.ended;rw [g];rfl
  clear a c d h;go_enter func81,ntmps81;go_wp2_with fail;go_ret;exact⟨by rw [i.out];rfl,rfl⟩
 | none =>
  rw [g] at a;obtain⟨rfl,_⟩:=a
  cases k:S.AB with
  | nil =>
   rw [k] at c;obtain rfl:m=.pointer none:=c;have i:Hid (S.ended=true):=show S.ended=true from by unfold Pl.PS.ended;rw [g,k];rfl
   clear d h;go_enter func81,ntmps81;go_wp2_with fail;go_ret;exact⟨by rw [i.out];rfl,rfl⟩
  | cons A n =>
   rw [k] at c;obtain⟨b,r,B,rfl,_⟩:=c;have i:Hid (S.ended=false):=show S.ended=false from by unfold Pl.PS.ended;rw [g,k];rfl
   clear d h;go_enter func81,ntmps81;go_wp2_with fail;go_ret;exact⟨by rw [i.out];rfl,rfl⟩
theorem nY{W:PW}{S:PS}(h:S.ended=false):A8 (n+1) W S=if(Pl.step W S).e=0 then A8 n (Pl.step W S).W (Pl.step W S).S else Pl.step W S:=by show(if S.ended then _ else _)=_;rw [h];rfl
theorem aAE{W:PW}{S:PS}(h:S.ended=true):A8 n W S=⟨0,W,S⟩:=by
 cases n with
 | zero=>show(if S.ended then _ else _)=_;rw [h];rfl
 | succ n=>show(if S.ended then _ else _)=_;rw [h];rfl
theorem wK{W:PW}{S:PS}(h:S.ended=false):A8 0 W S=⟨7,W,S⟩:=by show(if S.ended then _ else _)=_;rw [h];rfl
structure FinI(M:Nat->Prop)(w:World)(s:Sg)(tb mb sb gb rb:Nat)(r:SR)(m:Nat)(wr:World)(Mk:Nat->Prop)(sk:Sg)(Wk:PW)(Sk:PS):Prop where
 AQ:Stp M w Mk wr
 le:Sg.Le s sk/\EG w s sk
 wd:Wd Mk wr sk tb mb sb gb Wk
 SM:LO Mk wr sk sb rb Sk Wk.out
 inv:J2 m Wk Sk
 ne:Sk.ended=false
 eq:r=A8 m Wk Sk
theorem yV(M:Nat->Prop)(w:World)(s:Sg)(tb mb j k g n:Nat)(W:PW)(S:PS)(U:Wd M w s tb mb j k W)(B:LO M w s j g S W.out)(V:J2 n W S)(C:S.ended=false)(hn:n<=1000000) :Calls prog 257 #[.pointer (some ⟨g,0,none⟩),.int .i64 (n:Int)] w fun e D=>∃v,e=.returned v/\KA M w s tb mb j k g (A8 n W S) v D:=by
 have HI:Hid (FinI M w s tb mb j k g (A8 n W S) n w M s W S):=⟨Stp.refl _ _,⟨Sg.Le.refl _,EG.refl _ _⟩,U,B,V,C,rfl⟩
 clear U B V C;generalize A8 n W S=r at *;go_enter func257,ntmps257;go_wp2_with fail
 go_loopw [7] (fun Q wr=>∃(i:Nat)(E:Nat->Prop)(F:Sg)(b:PW)(c:PS),Q=.int .i64 (i:Int)/\i<=n/\Hid (FinI M w s tb mb j k g r (n-i) wr E F b c)) (fun Q _=>n-(RowKit.intOf Q).toNat)
 case atStart=>exact⟨0,M,s,W,S,rfl,Nat.zero_le _,HI⟩
 case round =>
  obtain⟨i,E,F,b,c,rfl,hi,O⟩:=hrel;by_cases ab:i<n
  ·obtain⟨m,X⟩:∃m,n-i=m+1:=⟨n-i-1,by omega⟩
   have d:=O.out;rw [X] at d;obtain⟨R,T,G⟩:=wF d.inv;obtain⟨Y,t,H,I,m2,J,Z⟩:=d.inv;have HS:Hid (Calls prog 82 #[.pointer (some ⟨g,0,none⟩)] wr fun e D=>∃v,e=.returned v/\KA E wr F tb mb j k g (Pl.step b c) v D):=aDA E wr F tb mb j k g t m2 b c d.wd d.wd.CY.B3.nsok d.SM H I J (t_ (Nat.le_add_right _ _) Z) Y d.ne;have aa:(i:Int)<(n:Int):=by omega
   have HZ:Hid (((Pl.step b c).e=0->(Pl.step b c).S.ended=true\/J2 m (Pl.step b c).W (Pl.step b c).S)/\n-(i+1)=m):=⟨G,by omega⟩
   have a:=h_ d;clear R T G d Y H I Z J X O
   go_upto_region 4 with(go_at_call 82;refine Calls.mono HS ?_;rintro e u ⟨v,rfl,HQ⟩)
   obtain⟨K,L,x,l,y,⟨p,N,q⟩ | ⟨z,p,N,q⟩⟩:=HQ
   ·simp only [Ending.returned.injEq] at N;subst N;have o:=nY (n:=m) (W:=b) (S:=c) a.ne;rw [if_pos p] at o;have P:Hid (Calls prog 81 #[.pointer (some ⟨g,1,none⟩)] u fun e D=>e=.returned (.bool (Pl.step b c).S.ended)/\u=D):=aB2 K u L j g _ _ q
    cases f:(Pl.step b c).S.ended with
    | true =>
     rw [f] at P
     have A:Hid (KA M w s tb mb j k g r .nilIface u):=by
      have hr:r=⟨0,(Pl.step b c).W,(Pl.step b c).S⟩:=by rw [a.eq,o,aAE f]
      rw [hr];exact⟨K,L,a.AQ.trans x,⟨a.le.1.trans l.1,a.le.2.trans l.2 a.AQ.size⟩,y,.inl ⟨rfl,rfl,q⟩⟩
     clear x l y p q o f;go_wp2_with (go_at_call 81;refine Calls.mono P ?_;rintro e w3 ⟨rfl,rfl⟩);go_ret;exact⟨_,rfl,A⟩
    | false =>
     rw [f] at P
     have HN:Hid (FinI M w s tb mb j k g r m u K L (Pl.step b c).W (Pl.step b c).S):=by
      refine⟨a.AQ.trans x,⟨a.le.1.trans l.1,a.le.2.trans l.2 a.AQ.size⟩,y,q,?_,f,by rw [a.eq,o]⟩;rcases HZ.1 p with h | h
      ·rw [f] at h;cases h
      ·exact h
     clear x l y p q o f;go_wp2_with (go_at_call 81;refine Calls.mono P ?_;rintro e w3 ⟨rfl,rfl⟩)
     go_roundw
     case rel=>exact⟨i+1,K,L,_,_,by go_num,by omega,by rw [HZ.2];exact HN⟩
     case measure=>simp only [RowKit.intOf];omega
   ·simp only [Ending.returned.injEq] at N;subst N;have o:=nY (n:=m) (W:=b) (S:=c) a.ne;rw [if_neg p] at o;have A:Hid (KA M w s tb mb j k g r (aY z ((Pl.step b c).e:Nat)) u):=by rw [a.eq,o];exact⟨K,L,a.AQ.trans x,⟨a.le.1.trans l.1,a.le.2.trans l.2 a.AQ.size⟩,y,.inr ⟨z,p,rfl,q⟩⟩
    clear x l y p q o;generalize (Pl.step b c).e=ec at *;unfold aY at A ⊢;go_wp2_with fail;go_ret;exact⟨_,rfl,A⟩
  ·obtain rfl:i=n:=by omega
   have d:=O.out;rw [Nat.sub_self] at d;have A:Hid (∀z,KA M w s tb mb j k g r (aY z 7) wr):=fun z=>by rw [d.eq,wK d.ne];exact⟨E,F,d.AQ,d.le,d.wd,.inr ⟨z,by simp,rfl,d.SM.out_⟩⟩
   clear d O;go_wp2_with (go_at_call 78;refine(bJ _ _ _).mono ?_;rintro e w3 ⟨rfl,rfl⟩);go_ret;exact⟨_,rfl,A _⟩
theorem qN(w:World)(i:Nat)(cs:Array Value)(j:Value)(b:AE)(k:w.heap[i]?=some (.cells cs BT (0,0)))(l:cs[5]?=some j)(a:w.ownsRow 0 JM 1 j b.length (cC b)):Calls prog 258 #[.pointer (some ⟨i,5,none⟩)] w fun e n=>e=.returned (.string ⟨b.toArray⟩)/\w=n:=by
 have s:w.cell? ⟨i,5,none⟩=some j:=(aA k 5).trans l;obtain⟨o,d,rfl,m,f⟩:=cJ a
 have p:(convert 165 9 (.slice o b.length d)).run prog w=.ok (.string ⟨b.toArray⟩) w:=by
  rcases a.2 with⟨h,q⟩ | ⟨g,c,r,h,_⟩
  ·simp only [Value.slice.injEq] at h;obtain⟨rfl,_,rfl⟩:=h;obtain rfl:=e_ q;exact qY w _ _
  ·simp only [Value.slice.injEq] at h;obtain⟨rfl,_,rfl⟩:=h;have:=lY a b.length n_ d;rw [List.take_length] at this;exact this
 clear a f k l;go_enter func258,ntmps258;go_wp2_with fail;go_ret;exact⟨rfl,rfl⟩
def cQ(sb:Nat)(fv:Value):Array Value:=#[.pointer (some ⟨sb,0,none⟩),fv,.pointer none,.nilIface,.pointer none,.slice none 0 0]
theorem aDB(w:World)(b:Nat)(a:Value)(c:∃T x,a=.iface T x):Calls prog 79 #[.pointer (some ⟨b,0,none⟩),a] w fun e d=>e=.returned (.pointer (some ⟨w.heap.size,0,none⟩))/\d=w.alloc (.cells (cQ b a) BT):=by obtain⟨T,x,rfl⟩:=c;go_enter func79,ntmps79;go_wp2_with fail;go_ret;exact⟨rfl,rfl⟩
def ZP(M:Nat->Prop)(w:World)(s:Sg)(tb mb sb gb:Nat)(r:SR)(e:Ending)(w':World):Prop :=
 ∃(M':Nat->Prop)(s':Sg)(tx:AE)(ev:Value),Stp M w M' w'/\(Sg.Le s s'/\EG w s s')/\Wd M' w' s' tb mb sb gb r.W/\e=.returned (.tuple #[.string ⟨r.W.out.toArray⟩,.string ⟨tx.toArray⟩,ev]) /\
  ((r.e=0/\ev=.nilIface/\tx=Pl.cut (Pl.text r.W.pairs r.S.val))\/(r.e≠0/\tx=[]/\∃es,ev=aY es (r.e:Nat)))
theorem Wd.out0{s:Sg}{W:PW}(h:Wd M w s tb mb sb gb W)(o:AE):Wd M w s tb mb sb gb {W with out:=o}:=h.more (Sg.Le.refl _) rfl rfl rfl rfl rfl rfl h.procs h.AG
theorem p_run(M:Nat->Prop)(w:World)(s:Sg)(tb mb c z n:Nat)(W:PW)(f:PF)(i:Value)(Y:Wd M w s tb mb c z W)(Z:W.out=[])(I:CP M w s i f)(hI:J2 n W ⟨some f,[],.nothing,[]⟩)(hn:n<=1000000)(hP:OU (A8 n W ⟨some f,[],.nothing,[]⟩).W)(hv:(A8 n W ⟨some f,[],.nothing,[]⟩).e=0->(A8 n W ⟨some f,[],.nothing,[]⟩).S.form=none/\BL (A8 n W ⟨some f,[],.nothing,[]⟩).W (A8 n W ⟨some f,[],.nothing,[]⟩).S.val) :Calls prog 256 #[.pointer (some ⟨c,0,none⟩),i,.int .i64 (n:Int)] w fun e m=>ZP M w s tb mb c z (A8 n W ⟨some f,[],.nothing,[]⟩) e m:=by
 have C:Below w.heap.size w (w.alloc (.cells (cQ c i) BT)):=b_;have o:Mv M w (Mn M (fun k=>k=w.heap.size)) (w.alloc (.cells (cQ c i) BT)):=Mv.wide _ (fun k P=>by rw [P];exact n_) C (fun k P=>by rw [P];simp);have t:(w.alloc (.cells (cQ c i) BT)).heap[w.heap.size]?=some (.cells (cQ c i) BT (0,0)):=heap_alloc_new w _;have u:LO (Mn M (fun k=>k=w.heap.size)) (w.alloc (.cells (cQ c i) BT)) s c w.heap.size ⟨some f,[],.nothing,[]⟩ W.out:=by rw [Z];exact⟨i,.pointer none,.nilIface,.pointer none,.slice none 0 0,⟨t,.inr rfl⟩,⟨I.go o.AQ (Sg.Le.refl _),.nil⟩,rfl,⟨World.ownsRow_nil _ _ _ _,fun g Q=>by cases Q⟩⟩
 have HS:=h_ (aDB w c i I.iface);have HF:Hid (Calls prog 257 #[.pointer (some ⟨w.heap.size,0,none⟩),.int .i64 (n:Int)] (w.alloc (.cells (cQ c i) BT)) fun e m=>∃v,e=.returned v/\KA (Mn M (fun k=>k=w.heap.size)) (w.alloc (.cells (cQ c i) BT)) s tb mb c z w.heap.size (A8 n W ⟨some f,[],.nothing,[]⟩) v m):=yV _ _ s tb mb c z w.heap.size n W _ (Y.mv o) u hI rfl hn;have J:=h_ o.AQ;have HP:Hid (OU (A8 n W ⟨some f,[],.nothing,[]⟩).W/\((A8 n W ⟨some f,[],.nothing,[]⟩).e=0->(A8 n W ⟨some f,[],.nothing,[]⟩).S.form=none/\BL (A8 n W ⟨some f,[],.nothing,[]⟩).W (A8 n W ⟨some f,[],.nothing,[]⟩).S.val)):=⟨hP,hv⟩
 obtain⟨T,x,rfl⟩:=I.iface;clear Y Z I hI hP hv C o t u;generalize A8 n W ⟨some f,[],.nothing,[]⟩=r at *;go_enter func256,ntmps256
 go_upto_region 3 with(first
  | (go_at_call 79;refine Calls.mono HS ?_;rintro e j ⟨rfl,rfl⟩)
  | (go_at_call 257;refine Calls.mono HF ?_;rintro e d ⟨v,rfl,HQ⟩))
 obtain⟨M2,R,K,A,D,⟨B,E,L⟩ | ⟨es,B,E,L⟩⟩:=HQ
 ·simp only [Ending.returned.injEq] at E;subst E;obtain⟨k7,k8⟩:=HP.2 B;obtain⟨S,U,p,V,y,a,b,F,h⟩:=L.ex;unfold FE at b;rw [k7] at b;have e3:d.cell? ⟨w.heap.size,3,none⟩=some p:=aA a.blk 3;have G:=aB a.blk;have l:Hid (∀j,Below d.heap.size d j->Calls prog 258 #[.pointer (some ⟨w.heap.size,5,none⟩)] j fun e m=>e=.returned (.string ⟨r.W.out.toArray⟩)/\j=m):=fun j q=>qN j w.heap.size _ y r.W.out ((q.block _ G).trans a.blk) rfl (gA h.1 (fun g Q=>q.block g (h.1.lt g Q).2));have X:Hid (∀j,Below d.heap.size d j->Calls prog 126 #[p] j fun e m=>e=.returned (.string ⟨(Pl.cut (Pl.text r.W.pairs r.S.val)).toArray⟩)/\Hid (Below d.heap.size d m)):=fun j q=>(hH r.W HP.1 R j p r.S.val (D.TJ q) b.2 k8).mono (fun e m ⟨j1,j2⟩=>⟨j1,q.trans (j2.mono q.size)⟩);have N:Hid (∀O,Below d.heap.size d O->ZP M w s tb mb c z r (.returned (.tuple #[.string ⟨r.W.out.toArray⟩,.string ⟨(Pl.cut (Pl.text r.W.pairs r.S.val)).toArray⟩,.nilIface])) O):=fun O q=>⟨M2,R,_,_,(J.trans K).trans (Stp.AA q),⟨A.1,A.2.back J.size⟩,D.mv (Mv.below q),rfl,.inl ⟨B,rfl,rfl⟩⟩
  obtain⟨Tg,xg,rfl⟩:=b.2.iface;clear K A D B L k7 k8 a b F h;generalize Pl.cut (Pl.text r.W.pairs r.S.val)=tx at *;generalize r.W.out=ot at *;go_wp2_with fail
  go_region_with (first
   | (go_at_call 126;refine(X _ (by exact r_.drew)).mono ?_;rintro e O ⟨rfl,H⟩)
   | (go_at_call 258;refine(l _ (by first | exact r_.drew | exact H)).mono ?_;rintro e w4 ⟨rfl,rfl⟩))
  all_goals
   go_wp2_with fail
   go_ret3
   exact N.out _ H
 ·simp only [Ending.returned.injEq] at E;subst E;obtain⟨S,U,p,V,y,a,h⟩:=L;have G:=aB a.blk;have l:Hid (Calls prog 258 #[.pointer (some ⟨w.heap.size,5,none⟩)] d fun e m=>e=.returned (.string ⟨r.W.out.toArray⟩)/\d=m):=qN d w.heap.size _ y r.W.out a.blk rfl h.1;have N:Hid (ZP M w s tb mb c z r (.returned (.tuple #[.string ⟨r.W.out.toArray⟩,.string ⟨#[]⟩,aY es (r.e:Nat)])) d):=⟨M2,R,[],_,J.trans K,⟨A.1,A.2.back J.size⟩,D,rfl,.inr ⟨B,rfl,es,rfl⟩⟩
  clear K A D B a h;generalize r.W.out=ot at *;generalize aa:r.e=re at *;unfold aY at N ⊢;go_wp2_with (go_at_call 258;refine Calls.mono l ?_;rintro e w4 ⟨rfl,rfl⟩)
  go_ret3
  exact N
theorem LH.grown{w':World}{c:Array Value}{b:Nat×Nat}(g:w.grownBy w' (some R))(d:w.heap[R]?=some (.cells c FZ b))(h:8<=R):LH w w' :=
 ⟨g.size,fun k x a f=>(g.block k (aB a) (fun e=>by
   have:=i_ e;subst this;rw [d] at a
   exact f c FZ b (.inl rfl) (i_ a).symm)).trans a,fun k a=>g.block k (by have:=aB d;omega) (fun e=>by have:=i_ e;omega)⟩
theorem pV{M':Nat->Prop}{w3 w4:World}{s:Sg}{W:PW}{cs:Array Value}(h:Wd M' w3 s tb mb sb gb W)(i:Stp M w M' w3)(d:w3.heap[R]?=some (.cells cs FZ (0,0)))(p:w.heap.size<=R)(q:8<=w.heap.size)(b:Below w3.heap.size w3 w4)(c:Int)(o t:ByteArray):Wd M' (U8 w4 R c o t) s tb mb sb gb W/\Stp M w M' (U8 w4 R c o t):=by have j:=(b.block R (aB d)).trans d;have g:w4.grownBy (U8 w4 R c o t) (some R):=aC (aC (aE w4 R 0 _) (aE _ R 1 _)) (aE _ R 2 _);have a:=i.trans (Stp.AA b);refine⟨(h.mv (Mv.below b)).FQ (LH.grown g j (by omega)),⟨g.os.trans a.os,g.tape.trans a.tape,g.output.trans a.output,t_ a.size g.size,fun k f l=>?_⟩⟩;obtain⟨m,n⟩:=a.block k f l;exact⟨(g.block k (l_ f a.size) (fun e=>by have:=i_ e;omega)).trans m,n⟩
theorem zJ(M:Nat->Prop)(w:World)(s:Sg)(tb mb o D t m:Nat)(W:PW)(b:ByteArray)(n:Int)(hW:Wd M w s tb mb o D W)(aa:WW W t)(ab:OV W m)(ht:m+1001000<=6500000000000000000)(hz:s.ns.length+300<=BS) :Calls prog 74 #[.iface 73 (.pointer (some ⟨o,0,none⟩)),.agg #[.string b,.int .i64 n],.pointer (some ⟨tb,0,none⟩)] w fun e a=>AnsP M w s tb mb o D (Pl.answer W (b.data.toList,n)) e a:=by
 obtain⟨a1,O,a3,R⟩:=ZF w b n;have h:Wd M (oE w b n) s tb mb o D W:=hW.mv (Mv.below R);have x:∀j,w.heap.size<=j->¬M j:=fun j hj hm=>by have:=hW.CY.mlt j hm;omega
 have I:Stp M w M (oE w b n):=Stp.AA R;have E:=aB0 b n M (oE w b n) s tb mb W.pairs h.CY h.ge hz;have J:=hW.gs.size
 cases l:Pl.over n with
 | true =>
  have P:Pl.answer W (b.data.toList,n)=(W,⟨6,[],[]⟩):=by unfold Pl.answer;rw [if_pos l]
  rw [P];refine(gS w _ _ b n 6 (fun a=>Below (oE w b n).heap.size (oE w b n) a) ⟨_,_,rfl⟩ ⟨_,rfl⟩ (E.mono (fun e a g=>?_)) (fun a A=>?_)).mono (fun e a g=>?_)
  ·obtain⟨v,Y,rfl,⟨_,⟨G,rfl⟩,H⟩ | ⟨d,_⟩⟩:=g
   ·exact⟨v,G,rfl,H⟩
   ·rw [l] at d;cases d
  ·exact⟨(h.mv (Mv.below A)).gt,(A.block _ (by omega)).trans O⟩
  ·obtain⟨K,w4,rfl,A,y,rfl⟩:=g;obtain⟨S,T⟩:=pV (h.mv (Mv.below A)) (I.trans (Stp.AA A)) ((A.block _ (by omega)).trans O) (by omega) J y (6:Nat) ⟨#[]⟩ ⟨#[]⟩;exact⟨rfl,M,s,T,⟨Sg.Le.refl _,LP.refl _ _⟩,by omega,S⟩
 | false =>
  by_cases Z:Pl.check b.data.toList=0
  ·cases hf:Pl.BQ b.data.toList with
   | none =>
    refine(gS w _ _ b n 5 (fun _=>False) ⟨_,_,rfl⟩ ⟨_,rfl⟩ (E.mono (fun e a g=>?_)) (fun a A=>A.elim)).mono (fun e a g=>?_)
    ·obtain⟨v,Y,rfl,⟨d,_⟩ | ⟨_,_,u,_,_,⟨c,G,d,p,_⟩ | ⟨f,_,p,_⟩⟩⟩:=g
     ·rw [l] at d;cases d
     ·omega
     ·rw [hf] at p;cases p
    ·obtain⟨K,w4,_,A,_⟩:=g;exact A.elim
   | some f =>
    obtain⟨hI,hP,hV⟩:=aDN (i:=(b.data.toList,n)) aa ab ht f l Z hf;have P:Pl.answer W (b.data.toList,n)=((A8 n.toNat (Pl.AR W f) (Pl.AV W f)).W,Pl.told (A8 n.toNat (Pl.AR W f) (Pl.AV W f))):=by unfold Pl.answer;dsimp only;rw [if_neg (by simp [l]),if_neg (by simp [Z]),hf]
    have ac:0<=n/\n<=1000000:=by unfold Pl.over at l;simp at l;omega
    rw [P];dsimp only at hI hP hV;obtain⟨k,rfl⟩:∃k:Nat,n=(k:Int):=⟨n.toNat,by omega⟩
    simp only [Int.toNat_natCast] at hI hP hV ⊢;have U:∀F q u,Wd M q u tb mb o D (Pl.AR W f)->CP M q u F (Pl.settle f W.pairs.length).1->Calls prog 256 #[.pointer (some ⟨o,0,none⟩),F,.int .i64 (k:Int)] q fun e a=>ZP M q u tb mb o D (A8 k (Pl.AR W f) (Pl.AV W f)) e a:=fun F q u L N=>p_run M q u tb mb o D k (Pl.AR W f) _ F L rfl N hI (by omega) hP hV;clear hI hP hV P;generalize A8 k (Pl.AR W f) (Pl.AV W f)=r at *
    refine(sP w o _ b (k:Int) ⟨r.W.out.toArray⟩ ⟨(Pl.told r).val.toArray⟩ r.e
     (fun F q=>∃u,(Sg.Le s u/\LP w s u)/\u.ns.length<=s.ns.length+300/\Stp M (oE w b (k:Int)) M q/\Wd M q u tb mb o D (Pl.AR W f)/\CP M q u F (Pl.settle f W.pairs.length).1)
     (fun K=>∃B u,Stp M (oE w b (k:Int)) B K/\(Sg.Le s u/\LP w s u)/\u.ns.length<=s.ns.length+300/\Wd B K u tb mb o D r.W) ⟨_,rfl⟩ (E.mono (fun e a g=>?_)) (fun F a g=>?_) (fun F q g=>?_) (fun a g=>?_)).mono (fun e a g=>?_)
    ·obtain⟨v,Y,rfl,⟨d,_⟩ | ⟨_,C,u,z,Q,⟨c,G,d,p,_⟩ | ⟨f1,_,p,rfl,L,N⟩⟩⟩:=g
     ·rw [l] at d;cases d
     ·omega
     ·obtain rfl:f=f1:=by rw [hf] at p;exact i_ p
      exact⟨v,rfl,u,⟨z.1.le,(LP.refl w s).trans z.2 R.size⟩,Q,eL C h.CY.FV,(h.read C z.1 L).out0 [],N⟩
    ·obtain⟨u,_,_,H,_,N⟩:=g;exact⟨N.iface,(H.block _ (by omega) (x _ n_)).1.trans a1⟩
    ·obtain⟨u,d,p,H,L,N⟩:=g;refine(U F q u L N).mono (fun e a hq=>?_);obtain⟨B,u',tx,Y,q1,⟨q2,q3⟩,q4,rfl,q5⟩:=hq;have V:∃B u,Stp M (oE w b (k:Int)) B a/\(Sg.Le s u/\LP w s u)/\u.ns.length<=s.ns.length+300/\Wd B a u tb mb o D r.W:=⟨B,u',H.trans q1,⟨d.1.trans q2,d.2.trans q3.2 (t_ R.size H.size)⟩,by rw [q3.1];exact p,q4⟩
     rcases q5 with⟨e0,rfl,rfl⟩ | ⟨e0,rfl,G,rfl⟩
     ·refine⟨.nilIface,?_,?_,V⟩
      ·unfold Pl.told;rw [if_pos e0]
      ·have:=sL a;rw [e0];exact this
     ·refine⟨aY G (r.e:Nat),?_,aCA G _ a q4.gt,V⟩;unfold Pl.told;rw [if_neg e0]
    ·obtain⟨B,u,d,_,_,_⟩:=g;exact(d.block _ (by omega) (x _ (Nat.le_succ _))).1.trans O
    ·obtain⟨K,w4,rfl,⟨B,u,d,p,H,L⟩,y,rfl⟩:=g;obtain⟨S,T⟩:=pV L (I.trans d) ((d.block _ (by omega) (x _ (Nat.le_succ _))).1.trans O) (by omega) J y (r.e:Nat) ⟨r.W.out.toArray⟩ ⟨(Pl.told r).val.toArray⟩;exact⟨rfl,B,u,T,p,H,S⟩
  ·have P:Pl.answer W (b.data.toList,n)=(W,⟨Pl.check b.data.toList,[],[]⟩):=by unfold Pl.answer;dsimp only;rw [if_neg (by simp [l]),if_pos Z]
   rw [P];refine(gS w _ _ b n (Pl.check b.data.toList) (fun a=>∃u,(DK s u/\LP (oE w b n) s u)/\u.ns.length<=s.ns.length+300/\(oE w b n).grownBy a (some mb)/\BM M a u tb mb W.pairs) ⟨_,_,rfl⟩ ⟨_,rfl⟩ (E.mono (fun e a g=>?_)) (fun a g=>?_)).mono (fun e a g=>?_)
   ·obtain⟨v,Y,rfl,⟨d,_⟩ | ⟨_,C,u,z,Q,⟨c,G,d,p,_,rfl,_,h6⟩ | ⟨f1,d,_⟩⟩⟩:=g
    ·rw [l] at d;cases d
    ·exact⟨v,G,by rw [d],u,z,Q,C,h6⟩
    ·exact absurd d Z
   ·obtain⟨u,z,Q,C,hR⟩:=g;exact⟨(h.read C z.1 hR).gt,((eL C h.CY.FV).block _ (by omega) (x _ (Nat.le_succ _))).1.trans O⟩
   ·obtain⟨K,w4,rfl,⟨u,z,Q,C,hR⟩,y,rfl⟩:=g;have X:Stp M (oE w b n) M K:=eL C h.CY.FV;obtain⟨S,T⟩:=pV (h.read C z.1 hR) (I.trans X) ((X.block _ (by omega) (x _ (Nat.le_succ _))).1.trans O) (by omega) J y (Pl.check b.data.toList:Nat) ⟨#[]⟩ ⟨#[]⟩;exact⟨rfl,M,u,T,⟨z.1.le,(LP.refl w s).trans z.2 R.size⟩,Q,S⟩
end
end Go.Proofs.YtkgbdddkcjpgfaaGreatDoor
