import Derived.Test.YtkgbdddkcjpgfaaGreatDoorS38
import Derived.Test.YtkgbdddkcjpgfaaGreatDoorS34
import Derived.Test.YtkgbdddkcjpgfaaGreatDoorS39
import Derived.Test.YtkgbdddkcjpgfaaGreatDoorS16
namespace Go.Proofs.YtkgbdddkcjpgfaaGreatDoor
set_option maxHeartbeats 4000000
set_option maxRecDepth 100000
open Go.Proofs.Tryz
section
open Go.RowKit
namespace Pl
def W0:PW:=⟨[],[],[],[],[],[]⟩
def newL(l:List Byt):PW:=l.foldl (fun W s=>bind W s (.prim s)) W0
def newW:PW:=newL prims
end Pl
theorem nR(l:List Pl.Byt)(s:Pl.Byt):Pl.newL (l++[s])=Pl.bind (Pl.newL l) s (.prim s):=by simp [Pl.newL,List.foldl_append]
theorem W0_ok:WW Pl.W0 0:=⟨fun i p h=>by simp [Pl.W0] at h,fun i p h=>by simp [Pl.W0] at h,Nat.le_refl _,fun p h=>by simp [Pl.W0] at h,Nat.le_refl _,fun p h=>by simp [Pl.W0] at h,Nat.le_refl _,fun p h=>by simp [Pl.W0] at h,Nat.le_refl _,fun p h=>by simp [Pl.W0] at h,Nat.le_refl _⟩
theorem vQ(l:List Pl.Byt)(h:∀s∈l,s∈Pl.prims):WW (Pl.newL l) l.length:=by
 have key:∀n (l:List Pl.Byt),l.length=n->(∀s∈l,s∈Pl.prims)->WW (Pl.newL l) n:=by
  intro n
  induction n with
  | zero=>intro l hl _;obtain rfl:=List.eq_nil_of_length_eq_zero hl;exact W0_ok
  | succ n ih =>
   intro l hl hm;obtain⟨l',s,rfl⟩:∃l' s,l=l'++[s]:=⟨l.dropLast,l.getLast (by intro e;simp [e] at hl),(List.dropLast_concat_getLast _).symm⟩
   rw [nR];exact(jR (ih l' (by simpa using hl) (fun x hx=>hm x (by simp [hx]))) s (.prim s) (hm s (by simp))).1
 exact key _ l rfl h
theorem vP:WW Pl.newW 13:=vQ Pl.prims (fun _ h=>h)
theorem RW.empty{w:World}{wb:Nat}(h:w.heap[wb]?=some (.cells #[.slice none 0 0,.slice none 0 0,.slice none 0 0,.slice none 0 0,.slice none 0 0,.string ⟨#[]⟩] TWd (0,0))):RW w wb (Mof wb [.slice none 0 0,.slice none 0 0,.slice none 0 0,.slice none 0 0,.slice none 0 0]) Pl.W0 :=⟨_,_,_,_,_,[],[],rfl,⟨h,World.ownsRow_nil _ _ _ _,World.ownsRow_nil _ _ _ _,fun i p hi=>by simp [Pl.W0] at hi,World.ownsRow_nil _ _ _ _,fun i p hi=>by simp [Pl.W0] at hi,World.ownsRow_nil _ _ _ _,World.ownsRow_nil _ _ _ _,by simp [Pl.W0]⟩⟩
theorem pB(wb k:Nat)(h:k≠wb):¬Mof wb [.slice none 0 0,.slice none 0 0,.slice none 0 0,.slice none 0 0,.slice none 0 0] k:=by
 rintro(e | ⟨v,hv,hb⟩)
 ·exact h e
 ·simp only [List.mem_cons,List.not_mem_nil,or_false,or_self] at hv;subst hv;simp [Value.ownBlock] at hb
theorem m0(w:World) :Calls prog 46 #[] w fun e w'=>e=.returned (.pointer (some ⟨w.heap.size,0,none⟩))/\Below w.heap.size w w'/\∃M,RW w' w.heap.size M Pl.newW/\∀k,k<w.heap.size->¬M k:=by
 have hW1:∀o1 o2:Obj,Below w.heap.size w (((w.alloc (.cells #[.slice none 0 0,.slice none 0 0,.slice none 0 0,.slice none 0 0,.slice none 0 0,.string ⟨#[]⟩] 96)).alloc o1).alloc o2):=fun o1 o2=>(((Below.refl _ _).alloc (Nat.le_refl _) _).alloc (by simp) _).alloc (by simp;omega) _;have HB1:Hid (∀o1 o2:Obj,Below w.heap.size w (((w.alloc (.cells #[.slice none 0 0,.slice none 0 0,.slice none 0 0,.slice none 0 0,.slice none 0 0,.string ⟨#[]⟩] 96)).alloc o1).alloc o2)):=hW1;clear hW1;go_enter func46,ntmps46;go_wp2_with fail;refine(bQ _).mono ?_;rintro e w' ⟨rfl,rfl⟩;have HBw:Hid (Below w.heap.size w _):=HB1.out aJ aH;have hE:(((w.alloc (.cells #[.slice none 0 0,.slice none 0 0,.slice none 0 0,.slice none 0 0,.slice none 0 0,.string ⟨#[]⟩] 96)).alloc aJ).alloc aH).heap[w.heap.size]?=some (.cells #[.slice none 0 0,.slice none 0 0,.slice none 0 0,.slice none 0 0,.slice none 0 0,.string ⟨#[]⟩] TWd (0,0)):=by rw [Below.heap_alloc _ _ _ (by simp;omega),Below.heap_alloc _ _ _ (by simp)];exact heap_alloc_new _ _
 have hN:(((w.alloc (.cells #[.slice none 0 0,.slice none 0 0,.slice none 0 0,.slice none 0 0,.slice none 0 0,.string ⟨#[]⟩] 96)).alloc aJ).alloc aH).heap[w.heap.size+1]?=some aJ:=by
  rw [Below.heap_alloc _ _ _ (by simp)];have:=heap_alloc_new (w.alloc (.cells #[.slice none 0 0,.slice none 0 0,.slice none 0 0,.slice none 0 0,.slice none 0 0,.string ⟨#[]⟩] 96)) aJ
  rwa [show(w.alloc (.cells #[.slice none 0 0,.slice none 0 0,.slice none 0 0,.slice none 0 0,.slice none 0 0,.string ⟨#[]⟩] 96)).heap.size=w.heap.size+1 from by simp] at this
 have HRW0:Hid (RW _ w.heap.size (Mof w.heap.size [.slice none 0 0,.slice none 0 0,.slice none 0 0,.slice none 0 0,.slice none 0 0]) Pl.W0):=RW.empty hE;have HN:Hid _:=hN;clear hE hN HB1;generalize ((w.alloc (.cells #[.slice none 0 0,.slice none 0 0,.slice none 0 0,.slice none 0 0,.slice none 0 0,.string ⟨#[]⟩] 96)).alloc aJ).alloc aH=w1 at *;have hn1:=aB HN.out;go_wp2_with fail
 go_loopw [4] (fun iv wr=>∃(k:Nat)(Mk:Nat->Prop),k<=13/\iv=.int .i64 k/\Hid (RW wr w.heap.size Mk (Pl.newL (Pl.prims.take k)))/\Hid (Stp (Mof w.heap.size [.slice none 0 0,.slice none 0 0,.slice none 0 0,.slice none 0 0,.slice none 0 0]) w1 Mk wr)) (fun iv _=>13-(intOf iv).toNat)
 case atStart=>exact⟨0,_,Nat.zero_le _,rfl,HRW0,Stp.refl _ _⟩
 case round =>
  obtain⟨k,Mk,hk,rfl,HW,HSt⟩:=hrel;by_cases hlt:k<13
  ·obtain⟨s,hs⟩:∃s,Pl.prims[k]?=some s:=⟨_,List.getElem?_eq_getElem hlt⟩
   have HP:Hid (Pl.newL (Pl.prims.take (k+1))=Pl.bind (Pl.newL (Pl.prims.take k)) s (.prim s)):=show _=_ from by rw [<- nR,List.take_add_one,hs];rfl
   have hok:=vQ (Pl.prims.take k) (fun x hx=>List.mem_of_mem_take hx);have hlk:(Pl.prims.take k).length<=13:=by rw [List.length_take];omega
   have hpl:=hok.placesL;have hgl:=hok.globalsL;have c1:wr.cell? ⟨w.heap.size+1,k,none⟩=some (.string ⟨s.toArray⟩):=by have hb:=(HSt.out.block (w.heap.size+1) hn1 (pB _ _ (by omega))).1.trans HN.out;have hb':wr.heap[w.heap.size+1]?=some (.cells (Pl.prims.map byV).toArray 9 (0,0)):=hb;rw [aA hb' k];simp only [List.getElem?_toArray,List.getElem?_map,hs];rfl
   have HBd:Hid (Calls prog 77 #[.pointer (some ⟨w.heap.size,0,none⟩),.string ⟨s.toArray⟩,.agg #[.string ⟨#[112,114,105,109,105,116,105,118,101]⟩,.int .i64 0,.string ⟨s.toArray⟩]] wr.drew fun e w'=>e=.returned (.tuple #[])/\∃M',RW w' w.heap.size M' (Pl.bind (Pl.newL (Pl.prims.take k)) s (.prim s))/\Stp Mk wr.drew M' w') :=qI wr.drew w.heap.size Mk (Pl.newL (Pl.prims.take k)) s (.prim s) (HW.out.later (Below.refl _ _).drew) hok.globals (by omega) (by omega);have hki:(k:Int)<13:=by omega
   clear hs hok hpl hgl hlk;go_wp2_with fail;go_region_with (go_at_call 77;refine Calls.mono HBd.out ?_;rintro e w2 ⟨rfl,M2,h1,h2⟩)
   all_goals
    have H1:Hid (RW w2 w.heap.size M2 (Pl.newL (Pl.prims.take (k+1)))):=show RW _ _ _ _ from by rw [HP.out];exact h1
    have H2:Hid (Stp (Mof w.heap.size [.slice none 0 0,.slice none 0 0,.slice none 0 0,.slice none 0 0,.slice none 0 0]) w1 M2 w2):=HSt.out.trans ((Stp.of_below (Below.refl _ _).drew).trans h2);clear h1 h2;go_wp2_with fail
    go_roundw
    case rel=>exact⟨k+1,M2,by omega,by go_num,H1,H2⟩
    case measure=>simp [intOf];omega
  ·have hk13:k=13:=by omega
   subst hk13;go_wp2_with fail;go_ret;have hst:=HSt.out;refine⟨rfl,⟨hst.os.trans HBw.out.os,hst.tape.trans HBw.out.tape,hst.output.trans HBw.out.output,Nat.le_trans HBw.out.size hst.size,fun j hj=>?_⟩,Mk,HW.out,fun j hj=>?_⟩
   ·rw [(hst.block j (Nat.lt_of_lt_of_le hj HBw.out.size) (pB _ _ (by omega))).1];exact HBw.out.block j hj
   ·exact(hst.block j (Nat.lt_of_lt_of_le hj HBw.out.size) (pB _ _ (by omega))).2
end
open Pl (PW PS Byt)
section
open Go.RowKit
def mL(W:PW)(S:PS)(n:Nat):Byt:=if n=0 then Pl.cut (Pl.text W.pairs S.val) else []
def oH(n:Nat)(out val:Byt):Value:=.agg #[.int .i64 (n:Int),.string ⟨out.toArray⟩,.string ⟨val.toArray⟩]
theorem xS(hI:ItoaSaid)(w:World)(wb xb:Nat)(M:Nat->Prop)(W:PW)(S:PS)(n:Nat)(hn:n<=100)(hW:RW w wb M W)(hG:Gs w M)(hP:WfP W)(hS:n=0->RS M w xb S/\S.form=none/\WfV W S.val) :Calls prog 57 #[.pointer (some ⟨wb,0,none⟩),.pointer (some ⟨xb,0,none⟩),.int .i64 n] w fun e w'=>e=.returned (oH n W.out (mL W S n))/\Below w.heap.size w w':=by
 have HW:Hid (RW w wb M W):=hW;obtain⟨pv,qv,cv,lv,gv,qs,cs,hM,hws⟩:=hW;have hwb:=aB hws.blk;have c5:w.cell? ⟨wb,5,none⟩=some (.string ⟨W.out.toArray⟩):=aA hws.blk 5;obtain⟨a1,_,a3,_⟩:=bM (o:=5) hwb;have HB2:Hid (∀o1 o2:Obj,Below w.heap.size w ((w.alloc o1).alloc o2)):=fun o1 o2=>((Below.refl _ _).alloc (Nat.le_refl _) _).alloc (by simp) _;have hout:=hws.out;clear hM hws;by_cases h0:n=0
 ·subst h0;obtain⟨hR,hf,hv⟩:=hS rfl;obtain⟨fv,ev,x0,x1,x2,frv,hxb,s1,_,_⟩:=hR;simp only [StV,hf] at s1;obtain⟨_,hval⟩:=s1;simp only [cZ,List.cons.injEq,and_true] at hval;obtain⟨rfl,rfl,rfl⟩:=hval;have hxl:=aB hxb;have HT:Hid (mL W S 0=Pl.cut (Pl.text W.pairs S.val)):=rfl;have y2:w.cell? ⟨xb,2,none⟩=some (.string ⟨(vK S.val).toArray⟩):=aA hxb 2;have y3:w.cell? ⟨xb,3,none⟩=some (.int .i64 (vN S.val)):=aA hxb 3;have y4:w.cell? ⟨xb,4,none⟩=some (.string ⟨(vS S.val).toArray⟩):=aA hxb 4;have qB:∀(o1 o2:Obj)(k off:Nat),k<w.heap.size->((w.alloc o1).alloc o2).cell? ⟨k,off,none⟩=w.cell? ⟨k,off,none⟩:=fun o1 o2 k off hk=>(HB2.out o1 o2).cell (p:=⟨k,off,none⟩) hk
  have HRk:Hid (Pl.rank S.val<=1000000000):=show _<=_ from by
   have h2:=hP.len
   cases hsv:S.val with
   | pair i=>rw [hsv] at hv;simp only [Pl.rank];have:i<W.pairs.length:=hv;omega
   | _=>simp [Pl.rank]
  have HTx:Hid (∀o1 o2:Obj,Calls prog 86 #[.pointer (some ⟨wb,0,none⟩),.agg #[.string ⟨(vK S.val).toArray⟩,.int .i64 (vN S.val),.string ⟨(vS S.val).toArray⟩],.string ⟨#[]⟩] ((w.alloc o1).alloc o2) fun e w'=>TextPost W S.val [] 1000000000 ((w.alloc o1).alloc o2) e w'):=fun o1 o2 =>lF hI wb M W hP 1000000000 (Nat.le_refl _) _ S.val [] (HW.out.later (HB2.out o1 o2)) (hG.below (HB2.out o1 o2)) hv HRk.out (by simp);clear hS hf hv hxb hG hP hI;generalize vK S.val=kk at *;generalize vN S.val=nn at *;generalize vS S.val=ss at *;go_enter func57,ntmps57;go_wp2_with fail;refine(HTx.out _ _).mono ?_;rintro e w1 ⟨hB,r,rfl,hq,hrl⟩;have hR1:=(hB.block w.heap.size (by simp;omega)).trans ((Below.heap_alloc _ _ _ (by simp)).trans (heap_alloc_new w _));have hO1:=(hB.block (w.heap.size+1) (by simp)).trans (zN w _ _ _);have HB1:Hid (Below w.heap.size w w1):=(HB2.out _ _).trans (hB.mono (HB2.out _ _).size);have HQ:Hid (Pl.cut r=Pl.cut (Pl.text W.pairs S.val)):=hq.cut;have HRl:Hid (r.length<=2000000000):=show _<=_ from by simp only [List.length_nil] at hrl;omega
  have HR1:Hid (w1.heap[w.heap.size]?=some (.cells #[.int .i64 0,.string ⟨#[]⟩,.string ⟨#[]⟩] 43 (0,0))):=hR1;have HO1:Hid (w1.heap[w.heap.size+1]?=some (.cells #[.int .i64 0,.string ⟨W.out.toArray⟩,.string ⟨#[]⟩] 43 (0,0))):=hO1;clear hB hq hrl hR1 hO1;go_wp2_with fail;refine(uE _ r (by have:=HRl.out;omega)).mono ?_;rintro e w' ⟨rfl,rfl⟩;rw [HQ.out];have p2:w1.cell? ⟨w.heap.size+1,2,none⟩=some (.string ⟨#[]⟩):=aA HO1.out 2;have f2:w1.frozen? ⟨w.heap.size+1,2,none⟩=false:=aF HO1.out 2;have hX:∀v:Value,(w1.setCell ⟨w.heap.size+1,2,none⟩ v).heap[w.heap.size+1]?=some (.cells #[.int .i64 0,.string ⟨W.out.toArray⟩,v] 43 (0,0)):=fun v=>aD HO1.out 2 v;have hY:∀v:Value,(w1.setCell ⟨w.heap.size+1,2,none⟩ v).heap[w.heap.size]?=some (.cells #[.int .i64 0,.string ⟨#[]⟩,.string ⟨#[]⟩] 43 (0,0)):=fun v=>by rw [Below.heap_setCell _ _ _ _ (fun e=>by simp at e)];exact HR1.out
  have z0:=fun v=>aA (hX v) 0;have z1:=fun v=>aA (hX v) 1;have z2:=fun v=>aA (hX v) 2;simp only [List.getElem?_toArray,List.getElem?_cons_succ,List.getElem?_cons_zero] at z0 z1 z2;have HBv:Hid (∀v:Value,Below w.heap.size w (w1.setCell ⟨w.heap.size+1,2,none⟩ v)):=fun v=>bO HB1.out (by omega) _ _;have T:=fun v=>set3 (hY v);generalize Pl.cut (Pl.text W.pairs S.val)=t at *;have T':=T (.string ⟨t.toArray⟩);have Z0:=z0 (.string ⟨t.toArray⟩);have Z1:=z1 (.string ⟨t.toArray⟩);have Z2:=z2 (.string ⟨t.toArray⟩);obtain⟨t0,t1,t2,u0,u1,u2,r1,r2,r3⟩:=T';have HBt:Hid (Below w.heap.size w (w1.setCell ⟨w.heap.size+1,2,none⟩ (.string ⟨t.toArray⟩))):=HBv.out _;clear z0 z1 z2 T hX hY HBv;go_wp2_with fail
  (try simp only [Exit.inBlock,Exit.then])
  refine bodyPost_ret (v:=oH 0 W.out t) ?_ rfl ?_
  ·rw [aO rfl];simp only [oH]
   go_simp
  ·refine⟨by rw [HT.out],?_⟩;exact bO (bO (bO HBt.out (Nat.le_refl _) _ _) (Nat.le_refl _) _ _) (Nat.le_refl _) _ _
 ·have HT:Hid (mL W S n=[]):=show mL W S n=[] from by unfold mL;rw [if_neg h0]
  have hnb:((n:Int)==0)=false:=by rw [beq_eq_false_iff_ne];omega
  clear hS h0 hG hP hI;go_enter func57,ntmps57;go_wp2_with fail
  (try simp only [Exit.inBlock,Exit.then])
  refine bodyPost_ret (v:=oH n W.out []) ?_ rfl ?_
  ·rw [aO rfl];simp only [oH]
   go_simp
   try rfl
  ·exact⟨by rw [HT.out],HB2.out _ _⟩
end
open Pl (PO)
section
open Go.RowKit Go.Lib Go.Maps
def TIn:TypeId:=41
def oE(w:World)(b:ByteArray)(n:Int):World:=(w.alloc (.cells #[.string b,.int .i64 n] TIn)).alloc (.cells #[.int .i64 0,.string ⟨#[]⟩,.string ⟨#[]⟩] TOc)
def ansZ(w:World)(R:Nat)(c:Int)(o t:ByteArray):World:=((w.setCell ⟨R,0,none⟩ (.int .i64 c)).setCell ⟨R,1,none⟩ (.string o)).setCell ⟨R,2,none⟩ (.string t)
theorem ansA_at(w:World)(b:ByteArray)(n:Int):(oE w b n).heap[w.heap.size]?=some (.cells #[.string b,.int .i64 n] TIn (0,0))/\(oE w b n).heap[w.heap.size+1]?=some (.cells #[.int .i64 0,.string ⟨#[]⟩,.string ⟨#[]⟩] TOc (0,0))/\(oE w b n).heap.size=w.heap.size+2/\Below w.heap.size w (oE w b n):=by refine⟨(Below.heap_alloc _ _ _ (by simp)).trans (heap_alloc_new w _),?_,by simp [oE],((Below.refl _ _).alloc (Nat.le_refl _) _).alloc (by simp) _⟩;have:=heap_alloc_new (w.alloc (.cells #[.string b,.int .i64 n] TIn)) (.cells #[.int .i64 0,.string ⟨#[]⟩,.string ⟨#[]⟩] TOc);rw [show(w.alloc (.cells #[.string b,.int .i64 n] TIn)).heap.size=w.heap.size+1 from by simp] at this;exact this
theorem gS(w:World)(ev tb:Value)(b:ByteArray)(n:Int)(c:Nat)(Q:World->Prop)
  (hev:∃T x,ev=.iface T x) (htb:∃o,tb=.pointer o)
  (hrd:Calls prog 48 #[.agg #[.string b,.int .i64 n],tb] (oE w b n) fun e w'=>∃v es,e=.returned (.tuple #[v,aY es (c:Int)])/\Q w')
  (hR:∀w',Q w'->GT w'/\w'.heap[w.heap.size+1]?=some (.cells #[.int .i64 0,.string ⟨#[]⟩,.string ⟨#[]⟩] TOc (0,0))) :
  Calls prog 74 #[ev,.agg #[.string b,.int .i64 n],tb] w fun e w'=>∃w3 w4,e=.returned (.agg #[.int .i64 (c:Int),.string ⟨#[]⟩,.string ⟨#[]⟩])/\Q w3/\Below w3.heap.size w3 w4/\w'=ansZ w4 (w.heap.size+1) c ⟨#[]⟩ ⟨#[]⟩:=by
 have HRd:Hid (Calls prog 48 #[.agg #[.string b,.int .i64 n],tb] ((w.alloc (.cells #[.string b,.int .i64 n] 41)).alloc (.cells #[.int .i64 0,.string ⟨#[]⟩,.string ⟨#[]⟩] 43)) fun e w'=>∃v es,e=.returned (.tuple #[v,aY es (c:Int)])/\Hid (Q w')):=hrd;have HR:Hid (∀w',Q w'->GT w'/\w'.heap[w.heap.size+1]?=some (.cells #[.int .i64 0,.string ⟨#[]⟩,.string ⟨#[]⟩] TOc (0,0))):=hR;obtain⟨T,x,rfl⟩:=hev;obtain⟨o,rfl⟩:=htb;clear hrd hR;go_enter func74,ntmps74
 go_upto_region 2 with(go_at_call 48;refine Calls.mono HRd.out ?_;rintro e w3 ⟨v,es,rfl,HQ⟩)
 obtain⟨hgt,hb3⟩:=HR.out w3 HQ.out;have HCo:Hid (Calls prog 42 #[aY es (c:Int)] w3 fun e w'=>e=.returned (.int .i64 (c:Int))/\Hid (Below w3.heap.size w3 w')):=p_code es c w3 hgt;have HX:Hid (∀w4,Below w3.heap.size w3 w4->w4.heap[w.heap.size+1]?=some (.cells #[.int .i64 0,.string ⟨#[]⟩,.string ⟨#[]⟩] TOc (0,0))):=fun w4 hB=>(hB.block _ (aB hb3)).trans hb3;clear hgt hb3;unfold aY at HCo ⊢;go_wp2_with (go_at_call 42;refine Calls.mono HCo.out ?_;rintro e w4 ⟨rfl,HB4⟩;obtain⟨t0,t1,t2,u0,u1,u2,r1,r2,r3⟩:=set3 (HX.out w4 HB4.out))
 (try simp only [Exit.inBlock,Exit.then])
 refine bodyPost_ret (v:=.agg #[.int .i64 (c:Int),.string ⟨#[]⟩,.string ⟨#[]⟩]) ?_ rfl ?_
 ·rw [aO rfl]
  go_simp
  try rfl
 exact⟨w3,w4,rfl,HQ.out,HB4.out,rfl⟩
theorem Tryz.runM(b:Nat)(w:World):(Go.method 638 73 (.pointer (some ⟨b,0,none⟩)) "Run").run prog w=.ok (256,.pointer (some ⟨b,0,none⟩)) w:=by kernel_rfl
theorem Tryz.runN(b:Nat)(w:World):(Go.nilAhead 638 73 (.pointer (some ⟨b,0,none⟩)) "Run").run prog w=.ok (some false) w:=by kernel_rfl
theorem Tryz.ent_run:Enters 256:=enters_of func256 (by kernel_rfl) rfl
theorem sP(w:World)(sb:Nat)(tb:Value)(b:ByteArray)(n:Int)(o t:ByteArray)(c:Nat)(Q1:Value->World->Prop)(Q2:World->Prop)(htb:∃o,tb=.pointer o)
  (hrd:Calls prog 48 #[.agg #[.string b,.int .i64 n],tb] (oE w b n) fun e w'=>∃fv,e=.returned (.tuple #[fv,.nilIface])/\Q1 fv w')
  (hin:∀fv w',Q1 fv w'->(∃T x,fv=.iface T x)/\w'.heap[w.heap.size]?=some (.cells #[.string b,.int .i64 n] TIn (0,0)))
  (hrun:∀fv w2,Q1 fv w2->Calls prog 256 #[.pointer (some ⟨sb,0,none⟩),fv,.int .i64 n] w2 fun e w'=>∃ev,e=.returned (.tuple #[.string o,.string t,ev])/\(Calls prog 42 #[ev] w' fun e w''=>e=.returned (.int .i64 (c:Int))/\Below w'.heap.size w' w'')/\Q2 w')
  (hR:∀w',Q2 w'->w'.heap[w.heap.size+1]?=some (.cells #[.int .i64 0,.string ⟨#[]⟩,.string ⟨#[]⟩] TOc (0,0))) :
  Calls prog 74 #[.iface 73 (.pointer (some ⟨sb,0,none⟩)),.agg #[.string b,.int .i64 n],tb] w fun e w'=>∃w3 w4,e=.returned (.agg #[.int .i64 (c:Int),.string o,.string t])/\Q2 w3/\Below w3.heap.size w3 w4/\w'=ansZ w4 (w.heap.size+1) c o t:=by
 have HRd:Hid (Calls prog 48 #[.agg #[.string b,.int .i64 n],tb] ((w.alloc (.cells #[.string b,.int .i64 n] 41)).alloc (.cells #[.int .i64 0,.string ⟨#[]⟩,.string ⟨#[]⟩] 43)) fun e w'=>∃fv,e=.returned (.tuple #[fv,.nilIface])/\Hid (Q1 fv w')):=hrd;have HR:Hid (∀w',Q2 w'->w'.heap[w.heap.size+1]?=some (.cells #[.int .i64 0,.string ⟨#[]⟩,.string ⟨#[]⟩] TOc (0,0))):=hR;have HIn:Hid (∀fv w',Q1 fv w'->(∃T x,fv=.iface T x)/\w'.heap[w.heap.size]?=some (.cells #[.string b,.int .i64 n] TIn (0,0))):=hin;have HRun:Hid (∀fv w2,Q1 fv w2->Calls prog 256 #[.pointer (some ⟨sb,0,none⟩),fv,.int .i64 n] w2 fun e w'=>∃ev,e=.returned (.tuple #[.string o,.string t,ev])/\Hid (Calls prog 42 #[ev] w' fun e w''=>e=.returned (.int .i64 (c:Int))/\Hid (Below w'.heap.size w' w''))/\Hid (Q2 w')):=hrun;have hm:=Tryz.runM sb;have hnl:=Tryz.runN sb;have hen:=Tryz.ent_run;unfold Enters at hen;obtain⟨oo,rfl⟩:=htb;clear hrd hR hin hrun;go_enter func74,ntmps74
 go_upto_region 2 with(go_at_call 48;refine Calls.mono HRd.out ?_;rintro e w2 ⟨fv,rfl,HQ1⟩)
 obtain⟨⟨T,x,rfl⟩,hb2⟩:=HIn.out fv w2 HQ1.out;have e1:w2.cell? ⟨w.heap.size,1,none⟩=some (.int .i64 n):=aA hb2 1;have HC:Hid (Calls prog 256 #[.pointer (some ⟨sb,0,none⟩),.iface T x,.int .i64 n] w2 fun e w'=>∃ev,e=.returned (.tuple #[.string o,.string t,ev])/\Hid (Calls prog 42 #[ev] w' fun e w''=>e=.returned (.int .i64 (c:Int))/\Hid (Below w'.heap.size w' w''))/\Hid (Q2 w')):=HRun.out _ w2 HQ1.out;clear hb2
 go_wp2_with (first
  | (go_at_call 256;refine Calls.mono HC.out ?_;rintro e w3 ⟨ev,rfl,HCo,HQ2⟩)
  | (go_at_call 42;refine Calls.mono HCo.out ?_;rintro e w4 ⟨rfl,HB4⟩;have hb3:=HR.out w3 HQ2.out;obtain⟨t0,t1,t2,u0,u1,u2,r1,r2,r3⟩:=set3 ((HB4.out.block _ (aB hb3)).trans hb3);clear hb3))
 (try simp only [Exit.inBlock,Exit.then])
 refine bodyPost_ret (v:=.agg #[.int .i64 (c:Int),.string o,.string t]) ?_ rfl ?_
 ·rw [aO rfl]
  go_simp
  try rfl
 exact⟨w3,w4,rfl,HQ2.out,HB4.out,rfl⟩
def AnsP(M:Nat->Prop)(w:World)(s:Sg)(tb mb sb gb:Nat)(r:PW×PO)(e:Ending)(w':World):Prop :=e=.returned (oH r.2.code r.2.out r.2.val)/\∃M' s',Stp M w M' w'/\Sg.Le s s'/\s'.ns.length<=s.ns.length+300/\Wd M' w' s' tb mb sb gb r.1
end
open Pl (PV)
section
open Go.RowKit
variable {w0 w:World} {wb:Nat} {pv qv cv lv gv pv':Value} {qs cs:List Value}
structure PrJ(w0 w:World)(wb:Nat)(W:PW)(pv qv cv lv gv:Value)(qs cs:List Value)(l:List (PV×PV))(pv':Value):Prop where
 old:RWs w0 wb W pv qv cv lv gv qs cs
 chg:Chg w0 w wb pv.ownBlock
 blk:w.heap[wb]?=some (.cells #[pv',qv,cv,lv,gv,byV W.out] TWd (0,0))
 row:w.ownsRow 0 TPa 6 pv' (W.pairs.length+l.length) ((W.pairs++l).flatMap mG)
 at_:∀k,pv'.ownBlock=some k->pv.ownBlock=some k\/w0.heap.size<=k
theorem PrJ.start{W:PW}(h:RWs w0 wb W pv qv cv lv gv qs cs)(hB:Below w0.heap.size w0 w):PrJ w0 w wb W pv qv cv lv gv qs cs [] pv:=by have h':=h.later (fun k hk=>hB.block k hk) (Stp.of_below hB);exact⟨h,⟨hB.os,hB.tape,hB.output,hB.size,fun k hk _ _=>hB.block k hk⟩,h'.blk,by simpa using h'.pr,fun k hk=>.inl hk⟩
theorem PrJ.grown{w':World}{W:PW}{l:List (PV×PV)}(h:PrJ w0 w wb W pv qv cv lv gv qs cs l pv'){row:Option Nat}(hg:w.grownBy w' row)(hr:∀k,row=some k->w0.heap.size<=k/\pv'.ownBlock≠some k):PrJ w0 w' wb W pv qv cv lv gv qs cs l pv':=by
 have hwb:=aB h.old.blk;have hsz:=h.chg.size;refine⟨h.old,⟨hg.os.trans h.chg.os,hg.tape.trans h.chg.tape,hg.output.trans h.chg.output,Nat.le_trans hsz hg.size,fun k hk h1 h2=>?_⟩,?_,?_,h.at_⟩
 ·rw [hg.block k (by omega) (fun e=>by have:=(hr k e.symm).1;omega)];exact h.chg.block k hk h1 h2
 ·rw [hg.block wb (aB h.blk) (fun e=>by have:=(hr wb e.symm).1;omega)];exact h.blk
 ·refine⟨h.row.1,?_⟩;rcases h.row.2 with hn | ⟨g,cap,cur,rfl,h0,hgg,rest⟩
  ·exact .inl hn
  ·exact .inr ⟨g,cap,cur,rfl,h0,(hg.block g (aB hgg) (fun e=>(hr g e.symm).2 rfl)).trans hgg,rest⟩
theorem PrJ.later{w':World}{W:PW}{l:List (PV×PV)}(h:PrJ w0 w wb W pv qv cv lv gv qs cs l pv')(hB:Below w.heap.size w w'):PrJ w0 w' wb W pv qv cv lv gv qs cs l pv' :=h.grown (aQ none hB) (fun k e=>by cases e)
theorem PrJ.done{W:PW}{l:List (PV×PV)}(h:PrJ w0 w wb W pv qv cv lv gv qs cs l pv') :RWs w wb {W with pairs:=W.pairs++l} pv' qv cv lv gv qs cs/\Stp (Mof wb [pv,qv,cv,lv,gv]) w0 (Mof wb [pv',qv,cv,lv,gv]) w:=by have ht:=aN h.old.pr;have hs:Stp (Mof wb [pv,qv,cv,lv,gv]) w0 (Mof wb [pv',qv,cv,lv,gv]) w :=h.chg.stp (fun k hk=>.inr ⟨pv,by simp,hk⟩) (fJ (v:=pv) (v':=pv') (by simp) (by intro x hx;simp only [List.mem_cons,List.not_mem_nil,or_false] at hx ⊢;rcases hx with rfl | rfl | rfl | rfl | rfl<;>simp) h.at_);refine⟨h.old.upd hs h.blk ?_ (aL h.old.pc h.chg h.old.blk ht (by decide) (by decide)) (aL h.old.cn h.chg h.old.blk ht (by decide) (by decide)) (aL h.old.pl h.chg h.old.blk ht (by decide) (by decide)) (aL h.old.gl h.chg h.old.blk ht (by decide) (by decide)) h.old.out (fun i p hi=>.inl ⟨hi,rfl,rfl⟩) (fun i fs hi=>.inl ⟨hi,rfl⟩),hs⟩;simpa using h.row
theorem uC(w0 w:World)(wb:Nat)(W:PW)(pv qv cv lv gv:Value)(qs cs:List Value)(l:List (PV×PV))(pv':Value)(x y:PV)(h:PrJ w0 w wb W pv qv cv lv gv qs cs l pv')(hn:W.pairs.length+l.length<=1000000000) :Calls prog 174 #[.pointer (some ⟨wb,0,none⟩),bT x,bT y] w fun e w'=>e=.returned (bT (.pair (W.pairs.length+l.length)))/\∃pv'',PrJ w0 w' wb W pv qv cv lv gv qs cs (l++[(x,y)]) pv''/\w.heap.size<=w'.heap.size/\(∀k,k<w.heap.size->k≠wb->pv'.ownBlock≠some k->w'.heap[k]?=w.heap[k]?):=by
 obtain⟨i0,hi0,hz0,hz1,hz2⟩:=info_parts Tryz.infoPa;have H:Hid (PrJ w0 w wb W pv qv cv lv gv qs cs l pv'):=h;have hlt:=aB h.blk;have hlt0:=aB h.old.blk;have hs0:=h.chg.size;have c3:w.cell? ⟨wb,0,none⟩=some pv':=aA h.blk 0;have a3:=fun o1 o2 o3=>(far4 (o:=0) hlt o1 o2 o3 o1).1;have a4:=fun o1 o2 o3 o4=>(far4 (o:=0) hlt o1 o2 o3 o4).2.1;clear h;obtain⟨N,hN⟩:∃N,N=W.pairs.length+l.length:=⟨_,rfl⟩
 have HN:Hid (N=W.pairs.length+l.length):=hN;rw [<- hN] at hn ⊢;clear hN;have HRow:Hid (w.ownsRow 0 TPa 6 pv' N ((W.pairs++l).flatMap mG)):=show World.ownsRow _ _ _ _ _ _ _ from by rw [HN.out];exact H.out.row
 unfold bT byV;go_enter func174,ntmps174;go_wp2_with fail
 go_region_law ((refine step_append_lies _ (by rfl) _ _ _ (by rfl) 0 263 i0 _ 6 80 underlying90 hi0 hz0 hz1 hz2 rfl (by omega) pv' N ((W.pairs++l).flatMap mG) (by rfl) (((((HRow.out.alloc _).alloc _).alloc _).alloc _).drew) ⟨w.heap.size+3,0,none⟩ 1 1 (mG (x,y)) (by rfl) (by rfl) (World.news_of_block (cs:=#[byV (vK x),.int .i64 (vN x),byV (vS x),byV (vK y),.int .i64 (vN y),byV (vS y)]) (t:=263) (fr:=(0,0)) (news4 w _ _ _ _ _)) (by simp [Value.oneCell',cZ,mG,byV]) (by omega) (by unfold maxLen;omega) (by omega) (by simp) (w.heap.size+4) (by simp) ?_;intro g3 cap3 w3 hown3 hgrow3 hat3 hlt3;obtain⟨k1,k2,k3⟩:=fD H.out.blk (jU w _ _ _ _) hgrow3 (aN HRow.out) (by decide) 0 pv' rfl))
 all_goals
  have hX:=tV (wb:=wb) (wO hgrow3 (new3 w _ _ _ _ _) (fun e=>by have:=(HRow.out.lt _ e).2;omega)) (show w.heap.size+2≠wb from by omega) 0 (.slice (some ⟨g3,0,none⟩) (N+1) cap3)
  have hg3:g3≠w.heap.size+2:=by
   rcases hat3 with e | rfl
   ·have:=(HRow.out.lt _ e).2;omega
   ·omega
  have Q1:Hid (PrJ w0 (w3.setCell ⟨wb,0,none⟩ (.slice (some ⟨g3,0,none⟩) (N+1) cap3)) wb W pv qv cv lv gv qs cs (l++[(x,y)]) (.slice (some ⟨g3,0,none⟩) (N+1) cap3)):=by
   have hw3:=mJ H.out.blk (jU w _ _ _ _) hgrow3 (aN HRow.out) (by decide);have hc:=dJ (jU w _ _ _ _) hgrow3 (wb:=wb) 0 (.slice (some ⟨g3,0,none⟩) (N+1) cap3);have hc0:=H.out.chg;refine⟨H.out.old,⟨hc.os.trans hc0.os,hc.tape.trans hc0.tape,hc.output.trans hc0.output,Nat.le_trans hc0.size hc.size,fun k hk h1 h2=>?_⟩,by rw [aD hw3];rfl,?_,?_⟩
   ·rw [hc.block k (Nat.lt_of_lt_of_le hk hc0.size) h1 ?_,hc0.block k hk h1 h2];intro e;rcases H.out.at_ k e.symm with h3 | h3
    ·exact h2 h3.symm
    ·omega
   ·have this:World.ownsRow _ 0 TPa 6 _ _ _:=fH hw3 (by decide) 0 (.slice (some ⟨g3,0,none⟩) (N+1) cap3) hown3;rw [List.length_append,List.length_singleton,<-Nat.add_assoc,<-HN.out,<-List.append_assoc,List.flatMap_append];simpa using this
   ·intro k hk;simp only [Value.ownBlock,Option.some.injEq] at hk;subst hk;rcases hat3 with h3 | h3
    ·exact H.out.at_ _ h3
    ·have:=hc0.size;exact .inr (by omega)
  have Q2:Hid (w.heap.size<=(w3.setCell ⟨wb,0,none⟩ (.slice (some ⟨g3,0,none⟩) (N+1) cap3)).heap.size/\(∀k,k<w.heap.size->k≠wb->pv'.ownBlock≠some k->(w3.setCell ⟨wb,0,none⟩ (.slice (some ⟨g3,0,none⟩) (N+1) cap3)).heap[k]?=w.heap[k]?)):=by have hc:=dJ (jU w _ _ _ _) hgrow3 (wb:=wb) 0 (.slice (some ⟨g3,0,none⟩) (N+1) cap3);exact⟨hc.size,fun k hk h1 h2=>hc.block k hk h1 (fun e=>h2 e.symm)⟩
  have HG3:Hid (g3≠w.heap.size+2):=hg3;have k4:=k3 (.slice (some ⟨g3,0,none⟩) (N+1) cap3);clear hown3 hgrow3 hat3 hlt3 H HRow k1 k2 k3 hg3;generalize w3.setCell ⟨wb,0,none⟩ (.slice (some ⟨g3,0,none⟩) (N+1) cap3)=X at *;obtain⟨r0,r1,r2,f0,f1,f2,s1,s2,s3⟩:=set3 hX;clear hX;go_wp2_with fail
  (try simp only [Exit.inBlock,Exit.then])
  refine bodyPost_ret (v:=bT (.pair N)) ?_ rfl ?_
  ·rw [aO rfl];simp only [bT,byV,vK,vN,vS,pI]
   go_simp
  ·have hg:=e6 X (w.heap.size+2) (.string ⟨#[112,97,105,114]⟩) (.int .i64 N) (.string ⟨#[]⟩);refine⟨rfl,_,Q1.out.grown hg (fun k hk=>⟨by simp at hk;omega,fun e=>by simp at hk;subst hk;simp only [Value.ownBlock,Option.some.injEq] at e;exact HG3.out e⟩),Nat.le_trans Q2.out.1 hg.size,fun k hk h1 h2=>?_⟩;rw [hg.block k (Nat.lt_of_lt_of_le hk Q2.out.1) (by simp;omega)];exact Q2.out.2 k hk h1 h2
end
open Pl (callccW)
section
open Go.RowKit Go.Lib Go.Maps
variable {w w':World} {gb n:Nat}
def oF:List Byt:=callccW::Pl.prims.take 12
theorem kZ:oF.Nodup:=by decide
theorem aAQ:oF.length=13:=rfl
def valI:Nat->Value
 | 0=>.iface 243 (.agg #[])
 | k+1=>.iface 246 (.int .i64 (k:Int))
theorem num_at(w:World)(tb mb i:Nat)(nm:Byt)(h:Tab w tb mb (oF.take i))(hi:oF[i]?=some nm):Calls prog 123 #[.pointer (some ⟨tb,0,none⟩),.string ⟨nm.toArray⟩] w fun e w'=>e=.returned (.int .i64 (i:Int))/\Tab w' tb mb (oF.take (i+1))/\w.grownBy w' (some mb):=by
 have hil:=(List.getElem?_eq_some_iff.1 hi).1;have hnm:nm∉oF.take i:=fun hm=>by obtain⟨j,hj⟩:=List.getElem?_of_mem hm;have hjl:=(List.getElem?_eq_some_iff.1 hj).1;rw [List.length_take] at hjl;rw [List.getElem?_take_of_lt (by omega)] at hj;have h1:=cV kZ hi;have h2:=cV kZ hj;omega
 have hlen:nm.length<=10:=by
  have:∀x∈oF,x.length<=10:=by decide
  exact this nm (List.mem_of_getElem? hi)
 have hl:(oF.take i).length=i:=by rw [List.length_take];omega
 refine(jE w tb mb (oF.take i) nm h (by omega) (by rw [hl];rw [aAQ] at hil;omega)).mono (fun e w' ⟨h1,h2,h3⟩=>⟨?_,?_,h3⟩)
 ·rw [h1,List.idxOf_eq_length hnm,hl]
 ·unfold b9 at h2;rw [if_neg hnm] at h2;rw [List.take_add_one,hi];exact h2
structure GI(w:World)(gb n:Nat)(D:DataW Value):Prop where
 own:w.ownsMap prog 3 s9 gb n D
 tidy:Tidy D
 yes:∀k:Nat,k<n->Maps.has D (.int .i64 (k:Int))=true/\∀z,D.atKey (.int .i64 (k:Int)) z=.held (valI k)
 no:∀k:Nat,n<=k->Maps.has D (.int .i64 (k:Int))=false
theorem GI.keep{D:DataW Value}(h:GI w gb n D)(hk:w'.heap[gb]?=w.heap[gb]?):GI w' gb n D:=by obtain⟨es,c,hb,r⟩:=h.own;exact⟨⟨es,c,hk.trans hb,r⟩,h.tidy,h.yes,h.no⟩
theorem GI.store{D:DataW Value}(h:GI w gb n D)(hn:n<=100):∃w',(Instr.mapUpdate 145 (.map (some gb)) (.int .i64 (n:Int)) (valI n)).run prog w=.ok () w'/\GI w' gb (n+1) (D.put (.int .i64 (n:Int)) (.held (valI n)))/\w.grownBy w' (some gb):=by
 have hkl:WideAt.IsKeyLit (.int .i64 (n:Int)):=trivial;obtain⟨w',h1,h2,h3⟩:=h.own.store lawI underlying145 (by unfold maxLen;omega) (keyK (k:=n) (Nat.le_trans hn (by unfold NsTop;decide))) (d:=.held (valI n)) (ps:=[]) (val:=valI n) rfl;refine⟨w',h1,⟨h2,h.tidy.put hkl _,fun k hk=>?_,fun k hk=>?_⟩,h3.grown⟩
 ·by_cases e:k=n
  ·subst e;exact⟨has_put_same h.tidy.isMap hkl _,fun z=>atKey_put_same h.tidy.isMap hkl _ z⟩
  ·obtain⟨j1,j2⟩:=h.yes k (by omega);exact⟨by rw [has_put_other (eK e)];exact j1,fun z=>by rw [atKey_put_other (eK e)];exact j2 z⟩
 ·rw [has_put_other (eK (show k≠n by omega))];exact h.no k (by omega)
def GQ(w:World)(tb mb gb n:Nat)(w':World):Prop:=Tab w' tb mb (oF.take n)/\(∃D,GI w' gb n D)/\(∀k,k<w.heap.size->k≠mb->w'.heap[k]?=w.heap[k]?)/\w.heap.size<=w'.heap.size/\w'.os=w.os/\w'.tape=w.tape/\w'.output=w.output/\gb<w'.heap.size/\w.heap.size<=gb
theorem GQ.alloc{tb mb:Nat}(h:GQ w tb mb gb n w')(o:Obj):GQ w tb mb gb n (w'.alloc o):=by obtain⟨h1,⟨D,h2⟩,h3,h4,h5,h6,h7,h8,h9⟩:=h;exact⟨h1.keep (Below.heap_alloc _ _ _ h1.lt.1) (Below.heap_alloc _ _ _ h1.lt.2),⟨D,h2.keep (Below.heap_alloc _ _ _ h8)⟩,fun k hk e=>(Below.heap_alloc _ _ _ (by omega)).trans (h3 k hk e),by simp;omega,h5,h6,h7,by simp;omega,h9⟩
theorem GQ.next{tb mb:Nat}(h:GQ w tb mb gb n w')(hn:n<=100){nm:Byt}(hi:oF[n]?=some nm)(hmb:mb<w.heap.size)(htb:tb<w.heap.size):Calls prog 123 #[.pointer (some ⟨tb,0,none⟩),.string ⟨nm.toArray⟩] w' fun e w2=>e=.returned (.int .i64 (n:Int))/\∃w3,(Instr.mapUpdate 145 (.map (some gb)) (.int .i64 (n:Int)) (valI n)).run prog w2=.ok () w3/\GQ w tb mb gb (n+1) w3/\∀k,w.heap.size<=k->k<w'.heap.size->k≠gb->w2.heap[k]?=w'.heap[k]? := by obtain⟨h1,⟨D,h2⟩,h3,h4,h5,h6,h7,h8,h9⟩:=h;refine(num_at w' tb mb n nm h1 hi).mono (fun e w2 ⟨k1,k2,k3⟩=>⟨k1,?_⟩);have hgk:w2.heap[gb]?=w'.heap[gb]? := k3.block gb h8 (fun e=>by have:=Option.some.inj e;omega);obtain⟨w3,j1,j2,j3⟩:=(h2.keep hgk).store hn;have e1:∀k,k<w2.heap.size->k≠gb->w3.heap[k]?=w2.heap[k]? := fun k hk e=>j3.block k hk (fun x=>e (Option.some.inj x));have e2:∀k,k<w'.heap.size->k≠mb->w2.heap[k]?=w'.heap[k]? := fun k hk e=>k3.block k hk (fun x=>e (Option.some.inj x));have hs2:=k3.size;have hs3:=j3.size;refine⟨w3,j1,⟨k2.keep (e1 tb (k2.lt.1) (by omega)) (e1 mb (k2.lt.2) (by omega)),⟨_,j2⟩,fun k hk e=>?_,by omega,j3.os.trans (k3.os.trans h5),j3.tape.trans (k3.tape.trans h6),j3.output.trans (k3.output.trans h7),by omega,h9⟩,fun k hk1 hk2 _=>e2 k hk2 (by omega)⟩;rw [e1 k (by omega) (by omega),e2 k (by omega) e];exact h3 k hk e
end
end Go.Proofs.YtkgbdddkcjpgfaaGreatDoor
