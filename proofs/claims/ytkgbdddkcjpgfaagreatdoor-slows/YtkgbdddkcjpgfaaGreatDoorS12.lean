import Derived.Laws.ResultCell
import Derived.Test.YtkgbdddkcjpgfaaGreatDoorS11
import Derived.Test.YtkgbdddkcjpgfaaGreatDoorS06
namespace Go.Proofs.YtkgbdddkcjpgfaaGreatDoor
set_option maxHeartbeats 2000000
set_option maxRecDepth 100000
open Go.Proofs.Tryz
open Pl (PV PF FR Byt formOf tsz kwB fmF isName)
section
open Go.RowKit
variable {w w':World} {M:Nat->Prop} {mb tb:Nat} {v:Value} {us:List Value}
structure Rdr(M:Nat->Prop)(w:World)(s:Sg)(tb mb:Nat)(ps:List (PV×PV)):Prop where
 tab:Tab w tb mb s.ns
 pairs:PairsAt M w s ps
 mmb:M mb
 mtb:¬M tb
 mlt:∀k,M k->k<w.heap.size
theorem Rdr.below{s:Sg}{ps:List (PV×PV)}(h:Rdr M w s tb mb ps)(hb:Below w.heap.size w w'):Rdr M w' s tb mb ps :=⟨h.tab.keep (hb.block _ h.tab.lt.1) (hb.block _ h.tab.lt.2),h.pairs.stp (Stp.of_below hb),h.mmb,h.mtb,fun k hk=>Nat.lt_of_lt_of_le (h.mlt k hk) hb.size⟩
def Mw(M:Nat->Prop)(a b:Nat)(k:Nat):Prop:=M k\/(a<=k/\k<b)
theorem Rdr.wide{s:Sg}{ps:List (PV×PV)}(h:Rdr M w s tb mb ps)(hb:Below w.heap.size w w'):Rdr (Mw M w.heap.size w'.heap.size) w' s tb mb ps/\Stp M w (Mw M w.heap.size w'.heap.size) w':=by
 have hs:Stp M w (Mw M w.heap.size w'.heap.size) w':=⟨hb.os,hb.tape,hb.output,hb.size,fun k hk hm=>⟨hb.block k hk,fun x=>x.elim hm (fun y=>by omega)⟩⟩
 refine⟨⟨h.tab.keep (hb.block _ h.tab.lt.1) (hb.block _ h.tab.lt.2),h.pairs.stp hs,.inl h.mmb,fun x=>x.elim h.mtb (fun y=>by have:=h.tab.lt.1;omega),fun k hk=>?_⟩,hs⟩;rcases hk with hk | hk
 ·exact Nat.lt_of_lt_of_le (h.mlt k hk) hb.size
 ·exact hk.2
theorem Rdr.narrow{w2:World}{a:Nat}{s t:Sg}{ps ps':List (PV×PV)}(h:Rdr M w s tb mb ps)(k:Rdr (Mw M w.heap.size a) w2 t tb mb ps'):Rdr M w2 t tb mb ps' :=⟨k.tab,k.pairs.weaken (fun _ x=>.inl x),h.mmb,h.mtb,fun i hi=>k.mlt i (.inl hi)⟩
theorem Rdr.wide2{wx:World}{s t:Sg}{ps:List (PV×PV)}(h:Rdr M w s tb mb ps)(hg:w.grownBy wx (some mb))(ht:Tab wx tb mb t.ns)(l:Sg.Le s t)(hp:t.pb=s.pb):Rdr (Mw M w.heap.size wx.heap.size) wx t tb mb ps/\Stp M w (Mw M w.heap.size wx.heap.size) wx:=by
 have hs:Stp M w (Mw M w.heap.size wx.heap.size) wx:=⟨hg.os,hg.tape,hg.output,hg.size,fun k hk hm=>⟨hg.block k hk (fun e=>hm (by rw [Option.some.inj e];exact h.mmb)),fun x=>x.elim hm (fun y=>by omega)⟩⟩
 refine⟨⟨ht,(h.pairs.stp hs).le l hp,.inl h.mmb,fun x=>x.elim h.mtb (fun y=>by have:=h.tab.lt.1;omega),fun k hk=>?_⟩,hs⟩;rcases hk with hk | hk
 ·exact Nat.lt_of_lt_of_le (h.mlt k hk) hg.size
 ·exact hk.2
theorem Stp.set{b:Nat}(hb:M b)(o:Nat)(v:Value):Stp M w M (w.setCell ⟨b,o,none⟩ v) :=⟨rfl,rfl,rfl,by simp [World.setCell],fun k _ hm=>⟨Below.heap_setCell _ _ _ _ (fun e=>hm (by rw [show k=b from by simpa using e];exact hb)),hm⟩⟩
theorem Rdr.set{s:Sg}{ps:List (PV×PV)}(h:Rdr M w s tb mb ps){b:Nat}(hb:M b)(hne:b≠mb)(o:Nat)(v:Value):Rdr M (w.setCell ⟨b,o,none⟩ v) s tb mb ps:=by have hs:=Stp.set (w:=w) hb o v;exact⟨h.tab.keep (hs.block tb h.tab.lt.1 h.mtb).1 (Below.heap_setCell _ _ _ _ (fun e=>hne (by simpa using e.symm))),h.pairs.stp hs,h.mmb,h.mtb,fun k hk=>by simpa [World.setCell] using h.mlt k hk⟩
theorem eL(h:w.grownBy w' (some mb))(hm:M mb):Stp M w M w':=Stp.of_grown h (fun k hk=>by obtain rfl:=Option.some.inj hk;exact hm)
theorem aI(h:Below w.heap.size w w'):w.grownBy w' (some mb):=⟨h.os,h.tape,h.output,h.size,fun k hk _=>h.block k hk⟩
theorem aM{a b c:World}(h:a.grownBy b (some mb))(k:b.grownBy c (some mb)):a.grownBy c (some mb) :=⟨k.os.trans h.os,k.tape.trans h.tape,k.output.trans h.output,Nat.le_trans h.size k.size,fun i hi hn=>(k.block i (Nat.lt_of_lt_of_le hi h.size) hn).trans (h.block i hi hn)⟩
theorem e9{X:World}{R:Nat}(h:w.grownBy X (some mb))(hR:w.heap.size<=R)(o:Nat)(v:Value):w.grownBy (X.setCell ⟨R,o,none⟩ v) (some mb) :=⟨h.os,h.tape,h.output,by simpa [World.setCell] using h.size,fun i hi hn=>by rw [Below.heap_setCell _ _ _ _ (fun e=>by have:i=R:=(by simpa using e);omega)];exact h.block i hi hn⟩
def rdV(tb:Nat):Value:=.agg #[.pointer (some ⟨tb,0,none⟩)]
def TRdr:TypeId:=113
def rdO(tb:Nat):Obj:=.cells #[.pointer (some ⟨tb,0,none⟩)] TRdr (0,0)
def SgR(s t:Sg):Prop:=∃l m,t={s with pb:=s.pb++l,ns:=s.ns++m}
theorem SgR.refl(s:Sg):SgR s s:=⟨[],[],by simp⟩
theorem SgR.trans{a b c:Sg}(h:SgR a b)(k:SgR b c):SgR a c:=by obtain⟨l,m,rfl⟩:=h;obtain⟨l2,m2,rfl⟩:=k;exact⟨l++l2,m++m2,by simp⟩
theorem SgR.le{a b:Sg}(h:SgR a b):Sg.Le a b:=by obtain⟨l,m,rfl⟩:=h;exact⟨rfl,rfl,List.prefix_append _ _,List.prefix_refl _,List.prefix_refl _,List.prefix_refl _,List.prefix_append _ _⟩
theorem PbLe.r{a b:Sg}(h:PbLe a b):SgR a b:=by obtain⟨l,rfl⟩:=h;exact⟨l,[],by simp⟩
def Sg.named(s:Sg)(x:Byt):Sg:={s with ns:=b9 s.ns x}
theorem Sg.named_r(s:Sg)(x:Byt):SgR s (s.named x):=by obtain⟨m,hm⟩:=pL s.ns x;exact⟨[],m,by simp [Sg.named,hm]⟩
theorem Rdr.fail{s t:Sg}{ps ps':List (PV×PV)}(h:Rdr M w s tb mb ps)(hs:w.grownBy w' (some mb))(k:Rdr M w' t tb mb ps')(hr:SgR s t):∃t',t'.pb=s.pb/\t'.ns=t.ns/\SgR s t'/\Rdr M w' t' tb mb ps:=by
 obtain⟨l,m,rfl⟩:=hr;have hr':SgR s {s with ns:=s.ns++m}:=⟨[],m,by simp⟩
 exact⟨{s with ns:=s.ns++m},rfl,rfl,hr',k.tab,(h.pairs.stp (eL hs h.mmb)).le hr'.le rfl,k.mmb,k.mtb,k.mlt⟩
def NsMax:Nat:=100000000000000000
def FmPost(M:Nat->Prop)(w:World)(s:Sg)(tb mb:Nat)(ps:List (PV×PV))(o:FR)(z:Nat)(e:Ending)(w':World):Prop :=
 w.grownBy w' (some mb)/\∃t,SgR s t/\t.ns.length<=s.ns.length+z /\
  ((∃r v,o=some r/\e=.returned (.tuple #[v,.nilIface])/\Rdr M w' t tb mb (ps++r.2)/\RFm M w' t v r.1) \/
   (o=none/\t.pb=s.pb/\Rdr M w' t tb mb ps/\∃v es,e=.returned (.tuple #[v,aY es 5])))
def FCall(M:Nat->Prop)(w:World)(v:Value)(F:Nat->FR)(z:Nat):Prop:=∀(M':Nat->Prop)(w':World)(s:Sg)(tb mb:Nat) (ps:List (PV×PV)),Stp M w M' w'->Rdr M' w' s tb mb ps->s.ns.length+z<=NsMax ->
 Calls prog 67 #[rdV tb,v] w' fun e w2=>FmPost M' w' s tb mb ps (F ps.length) z e w2
theorem FCall.go{M':Nat->Prop}{F:Nat->FR}{z:Nat}(h:FCall M w v F z)(hs:Stp M w M' w'):FCall M' w' v F z:=fun M2 w2 s tb mb ps h2 hr hz=>h M2 w2 s tb mb ps (hs.trans h2) hr hz
def FSaid(n:Nat):Prop:=∀(M:Nat->Prop)(w:World)(v:Value)(t:Tr),RepP (fun k=>¬M k) n w v t->cL n t->FCall M w v (fmF (formOf n t)) (tsz n t)
theorem RepP.go{M':Nat->Prop}{n:Nat}{t:Tr}(h:RepP (fun k=>¬M k) n w v t)(hs:Stp M w M' w'):RepP (fun k=>¬M' k) n w' v t:=by have h2:RepP (fun k=>¬M k/\k<w.heap.size) n w v t:=RepP.mono (fun k hk ho=>⟨ho,hk⟩) _ _ _ h;have h3:RepP (fun k=>¬M k/\k<w.heap.size) n w' v t:=RepP.keep (fun k _ ho hk=>(hs.block k (aB hk) ho.1).1.trans hk) _ _ _ h2;exact RepP.mono (fun k _ ho=>(hs.block k ho.2 ho.1).2) _ _ _ h3
def DRow(M:Nat->Prop)(w:World)(sl:Value)(vs:List Value):Prop:=Sl M w PT 1 sl vs.length vs
theorem RepP.drow{n:Nat}{ts:List Tr}(h:RepP (fun k=>¬M k) (n+1) w v (.agg ts)):∃sl vs,v=.iface 115 sl/\DRow M w sl vs/\All2 (RepP (fun k=>¬M k) n w) vs ts/\ts.length<=1000:=by
 obtain⟨sl,vs,hv,hok,h3,h4,h5⟩:=h;have hl:vs.length=ts.length:=h3.1.trans (Nat.mul_one _);refine⟨sl,vs,hv,⟨by simp,?_⟩,⟨hl,h4⟩,h5⟩;rcases h3.2 with⟨hv,h0⟩ | ⟨g,cap,cur,hv,_,hg,hc,_,_,ht⟩
 ·have:vs=[]:=List.eq_nil_of_length_eq_zero (by omega);subst this;exact⟨none,0,hv,Nat.le_refl _,.inl rfl⟩
 ·refine⟨some ⟨g,0,none⟩,cap,by rw [hl];exact hv,by omega,.inr ⟨g,0,cur,rfl,hok g (by rw [hv];rfl),hg,?_⟩⟩;intro i u hu;rw [Nat.zero_add];rw [<- ht,List.getElem?_take] at hu;split at hu
  ·simpa using hu
  ·cases hu
theorem Sl.slOf{T:TypeId}{vs:List Value}(h:Sl M w T 1 v vs.length vs):SlOf w v vs:=by
 obtain⟨_,ao,cap,rfl,hc,h3⟩:=h;refine⟨ao,cap,rfl,hc,fun i u hu=>?_⟩;have hi:=(List.getElem?_eq_some_iff.1 hu).1;rcases h3 with h0 | ⟨g,off,cur,rfl,_,hg,hcur⟩
 ·omega
 ·exact⟨g,off,rfl,aB hg,by rw [aA hg];exact hcur i u hu⟩
theorem Sl.tail1{T:TypeId}{g off cap L:Nat}{u:Value}(h:Sl M w T 1 (.slice (some ⟨g,off,none⟩) L cap) (us.length+1) (u::us))(m:Nat)(hm:us.length=m)(ao:Option Addr)(c:Nat)(hc:m<=c)(ha:m≠0->ao=some ⟨g,off+1,none⟩):Sl M w T 1 (.slice ao m c) us.length us:=by
 subst hm;refine⟨by simp,ao,c,rfl,hc,?_⟩;by_cases h0:us.length=0
 ·exact .inl h0
 ·right;obtain⟨_,ao',cap',e,_,h3⟩:=h;rcases h3 with h3 | ⟨g',off',cur,rfl,hm,hg,hcur⟩
  ·omega
  ·simp only [Value.slice.injEq,Option.some.injEq,Addr.mk.injEq,and_true] at e;obtain⟨⟨rfl,rfl⟩,_,_⟩:=e;refine⟨g,off+1,cur,ha h0,hm,hg,fun i x hi=>?_⟩;have:=hcur (i+1) x (by simpa using hi);rw [show off+1+i=off+(i+1) from by omega];exact this
def NmPost(M:Nat->Prop)(w:World)(s:Sg)(tb mb:Nat)(ps:List (PV×PV))(t:Tr)(e:Ending)(w':World):Prop :=
 w.grownBy w' (some mb) /\
  ((∃x,t=.lit (.string x)/\kwB x=false/\e=.returned (.tuple #[.agg #[.string ⟨x.toArray⟩,.int .i64 ((s.ns.idxOf x:Nat):Int)],.nilIface])/\Rdr M w' (s.named x) tb mb ps) \/
   (isName t=false/\Rdr M w' s tb mb ps/\∃es,e=.returned (.tuple #[.agg #[.string ⟨#[]⟩,.int .i64 0],aY es 5])))
theorem bA(w:World)(o1 o2:Obj):Below w.heap.size w ((w.alloc o1).alloc o2):=((Below.refl _ _).alloc (Nat.le_refl _) _).alloc (by simp) _
theorem two_new(w:World)(o1:Obj)(cs:Array Value)(T:TypeId):((w.alloc o1).alloc (.cells cs T)).heap[w.heap.size+1]?=some (.cells cs T (0,0)):=by have:=heap_alloc_new (w.alloc o1) (.cells cs T);rw [show(w.alloc o1).heap.size=w.heap.size+1 from by simp] at this;exact this
theorem qP(ok:Nat->Prop)(n:Nat)(w0:World)(M:Nat->Prop)(w:World)(s:Sg)(tb mb:Nat)(ps:List (PV×PV))(v:Value)(t:Tr)(h:RepP ok n w0 v t)(hR:Rdr M w s tb mb ps)(hx:∀x,t=.lit (.string x)->x.length<=1000/\s.ns.length+1<=NsMax) :Calls prog 113 #[rdV tb,v] w fun e w'=>NmPost M w s tb mb ps t e w':=by
 have as1:=Tryz.asNumber_Name;have as2:=Tryz.asTruth_Name;have as3:=Tryz.asName_Name;have as4:=Tryz.asList_Name;have HR:Hid (Rdr M w s tb mb ps):=hR;unfold rdV;by_cases hs:∃x,t=.lit (.string x)
 ·obtain⟨x,rfl⟩:=hs;obtain rfl:=h.at_name;have HX:Hid (x.length<=1000/\s.ns.length+1<=NsMax):=hx x rfl;clear h hx hR
  cases hk:kwB x
  ·go_enter func113,ntmps113
   go_wp2_with (go_at_call 110;refine(b8 _ _).mono ?_;rintro e w' ⟨rfl,rfl⟩)
   obtain⟨HR2,hS2⟩:=HR.out.wide (bA w (rdO tb) (.cells #[.string ⟨#[]⟩,.int .i64 0] TNam));refine(jE _ tb mb s.ns x HR2.tab (by have:=HX.out.1;omega) (by have hz:=HX.out.2;unfold NsMax at hz;omega)).mono ?_;rintro e w2 ⟨rfl,ht,hg⟩;have hmb:=HR.out.mlt mb HR.out.mmb;have hb:=(hg.block (w.heap.size+1) (by simp) (by simp;omega)).trans (two_new w _ _ _);have hm1:Mw M w.heap.size ((w.alloc (rdO tb)).alloc (.cells #[.string ⟨#[]⟩,.int .i64 0] TNam)).heap.size (w.heap.size+1):=.inr ⟨by omega,by simp⟩;have hR3:Rdr (Mw M w.heap.size ((w.alloc (rdO tb)).alloc (.cells #[.string ⟨#[]⟩,.int .i64 0] TNam)).heap.size) w2 (s.named x) tb mb ps:=⟨ht,(HR2.pairs.stp (Stp.of_grown hg (fun k hk=>by obtain rfl:=Option.some.inj hk;exact HR2.mmb))).le (s.named_r x).le rfl,HR2.mmb,HR2.mtb,fun k hk=>Nat.lt_of_lt_of_le (HR2.mlt k hk) hg.size⟩
   have HN:Hid (∀u v,Rdr M ((w2.setCell ⟨w.heap.size+1,0,none⟩ u).setCell ⟨w.heap.size+1,1,none⟩ v) (s.named x) tb mb ps):=fun u v=>HR.out.narrow ((hR3.set hm1 (by omega) 0 u).set hm1 (by omega) 1 v);have HS:Hid (∀u v,w.grownBy ((w2.setCell ⟨w.heap.size+1,0,none⟩ u).setCell ⟨w.heap.size+1,1,none⟩ v) (some mb)):=fun u v=>e9 (e9 (aM (aI (bA w _ _)) hg) (by omega) 0 u) (by omega) 1 v;have z0:w2.cell? ⟨w.heap.size+1,0,none⟩=some (.string ⟨#[]⟩):=aA hb 0;have z1:w2.cell? ⟨w.heap.size+1,1,none⟩=some (.int .i64 0):=aA hb 1;have y0:w2.frozen? ⟨w.heap.size+1,0,none⟩=false:=aF hb 0;have y1:w2.frozen? ⟨w.heap.size+1,1,none⟩=false:=aF hb 1;have HK:Hid (kwB x=false):=hk;clear HR2 hS2 hR3 hm1 ht hg hb hk hmb;go_wp2_with fail
   (try simp only [Exit.inBlock,Exit.then])
   refine bodyPost_ret (v:=.tuple #[.agg #[.string ⟨x.toArray⟩,.int .i64 ((s.ns.idxOf x:Nat):Int)],.nilIface]) ?_ rfl ?_
   ·rw [results_cell_tmp rfl]
    go_simp
   ·exact⟨HS.out _ _,.inl ⟨x,rfl,HK.out,rfl,HN.out _ _⟩⟩
  ·have HE:Hid (isName (.lit (.string x))=false):=by simp [Hid,isName,hk]
   go_enter func113,ntmps113
   go_wp2_with (first | (go_at_call 110;refine(b8 _ _).mono ?_;rintro e w' ⟨rfl,rfl⟩) | (go_at_call 149;refine(aS _ _).mono ?_;rintro e w' ⟨rfl,rfl⟩))
   (try simp only [Exit.inBlock,Exit.then])
   refine bodyPost_ret (v:=.tuple #[.agg #[.string ⟨#[]⟩,.int .i64 0],aY ⟨#[114,101,97,100,105,110,103,32,97,32,110,97,109,101]⟩ 5]) ?_ rfl ?_
   ·rw [results_cell_tmp rfl]
    go_simp
   ·exact⟨aI (bA w _ _),.inr ⟨HE.out,HR.out.below (bA w _ _),_,rfl⟩⟩
 ·have HE:Hid (isName t=false):=by
   show isName t=false;unfold isName;split
   ·exact absurd ⟨_,rfl⟩ hs
   ·rfl
  obtain⟨x,hx⟩:∃x,v=.iface 293 x\/v=.iface 295 x\/v=.iface 115 x:=by
   cases n with
   | zero=>exact h.elim
   | succ n =>
    match t,h with
    | .lit (.int _ _),h=>obtain⟨k,rfl,_⟩:=h;exact⟨_,.inl rfl⟩
    | .lit (.bool _),h=>exact⟨_,.inr (.inl h)⟩
    | .lit (.string s),_=>exact absurd ⟨s,rfl⟩ hs
    | .agg ts,h=>obtain⟨sl,vs,rfl,_⟩:=h;exact⟨_,.inr (.inr rfl)⟩
  clear h hs hR;rcases hx with rfl | rfl | rfl
  ·go_enter func113,ntmps113
   go_wp2_with (first | (go_at_call 110;refine(b8 _ _).mono ?_;rintro e w' ⟨rfl,rfl⟩) | (go_at_call 149;refine(aS _ _).mono ?_;rintro e w' ⟨rfl,rfl⟩))
   (try simp only [Exit.inBlock,Exit.then])
   refine bodyPost_ret (v:=.tuple #[.agg #[.string ⟨#[]⟩,.int .i64 0],aY ⟨#[114,101,97,100,105,110,103,32,97,32,110,97,109,101]⟩ 5]) ?_ rfl ?_
   ·rw [results_cell_tmp rfl]
    go_simp
   ·exact⟨aI (bA w _ _),.inr ⟨HE.out,HR.out.below (bA w _ _),_,rfl⟩⟩
  ·go_enter func113,ntmps113
   go_wp2_with (first | (go_at_call 110;refine(b8 _ _).mono ?_;rintro e w' ⟨rfl,rfl⟩) | (go_at_call 149;refine(aS _ _).mono ?_;rintro e w' ⟨rfl,rfl⟩))
   (try simp only [Exit.inBlock,Exit.then])
   refine bodyPost_ret (v:=.tuple #[.agg #[.string ⟨#[]⟩,.int .i64 0],aY ⟨#[114,101,97,100,105,110,103,32,97,32,110,97,109,101]⟩ 5]) ?_ rfl ?_
   ·rw [results_cell_tmp rfl]
    go_simp
   ·exact⟨aI (bA w _ _),.inr ⟨HE.out,HR.out.below (bA w _ _),_,rfl⟩⟩
  ·go_enter func113,ntmps113
   go_wp2_with (first | (go_at_call 110;refine(b8 _ _).mono ?_;rintro e w' ⟨rfl,rfl⟩) | (go_at_call 149;refine(aS _ _).mono ?_;rintro e w' ⟨rfl,rfl⟩))
   (try simp only [Exit.inBlock,Exit.then])
   refine bodyPost_ret (v:=.tuple #[.agg #[.string ⟨#[]⟩,.int .i64 0],aY ⟨#[114,101,97,100,105,110,103,32,97,32,110,97,109,101]⟩ 5]) ?_ rfl ?_
   ·rw [results_cell_tmp rfl]
    go_simp
   ·exact⟨aI (bA w _ _),.inr ⟨HE.out,HR.out.below (bA w _ _),_,rfl⟩⟩
theorem Tryz.infoFm:(prog.info? 61).map (fun i=>(i.zero,i.size,i.bytes))=some (some .nilIface,1,16):=by kernel_rfl
def FmsPost(M:Nat->Prop)(w:World)(s:Sg)(tb mb:Nat)(ps:List (PV×PV))(o:Option (List PF×List (PV×PV)))(len z:Nat)(e:Ending)(w':World):Prop :=
 w.grownBy w' (some mb)/\∃t,SgR s t/\t.ns.length<=s.ns.length+z /\
  ((∃r v us,o=some r/\e=.returned (.tuple #[v,.nilIface])/\Rdr M w' t tb mb (ps++r.2)/\Sl M w' TForm 1 v len us/\us.length=len/\All2 (RFm M w' t) us r.1) \/
   (o=none/\t.pb=s.pb/\Rdr M w' t tb mb ps/\∃v es,e=.returned (.tuple #[v,aY es 5])))
def Mr(M:Nat->Prop)(v:Value)(k:Nat):Prop:=M k\/v.ownBlock=some k
structure FsInv(M:Nat->Prop)(w wr:World)(s t:Sg)(tb mb:Nat)(ps:List (PV×PV))(Fs:List (Nat->FR))(zs:List Nat)(k:Nat)(rv:Value)(us:List Value)(fs:List PF)(new:List (PV×PV)):Prop where
 row:wr.ownsRow w.heap.size TForm 1 rv k us
 ul:us.length=k
 fl:fs.length=k
 rd:Rdr (Mr M rv) wr t tb mb (ps++new)
 stp:Stp M w (Mr M rv) wr
 gm:w.grownBy wr (some mb)
 sg:SgR s t
 nl:t.ns.length<=s.ns.length+(zs.take k).sum
 rep:∀(i:Nat)(u:Value)(x:PF),us[i]?=some u->fs[i]?=some x->RFm (Mr M rv) wr t u x
 left:Pl.Left Fs ps.length k fs new
theorem FsInv.start{w1:World}{s:Sg}{ps:List (PV×PV)}(Fs:List (Nat->FR))(zs:List Nat)(h:Rdr M w s tb mb ps)(hb:Below w.heap.size w w1):FsInv M w w1 s s tb mb ps Fs zs 0 (.slice none 0 0) [] [] []:=by
 have hm:∀k,Mr M (.slice none 0 0) k↔M k:=fun k=>by simp [Mr,Value.ownBlock]
 have hr:=h.below hb;have hs:Stp M w (Mr M (.slice none 0 0)) w1:=⟨hb.os,hb.tape,hb.output,hb.size,fun k hk hn=>⟨hb.block k hk,fun x=>hn ((hm k).1 x)⟩⟩
 refine⟨World.ownsRow_nil _ _ _ _,rfl,rfl,⟨hr.tab,?_,(hm _).2 hr.mmb,fun x=>hr.mtb ((hm _).1 x),fun k hk=>hr.mlt k ((hm k).1 hk)⟩,hs,aI hb,SgR.refl s,by simp,fun i u x hu=>by simp at hu,Pl.Left.start _ _⟩;rw [List.append_nil];exact hr.pairs.weaken (fun k hk=>(hm k).1 hk)
theorem FsInv.push{wr w2 w3:World}{s t t2:Sg}{ps:List (PV×PV)}{Fs:List (Nat->FR)}{zs:List Nat}{k z:Nat}{rv u:Value}{fs:List PF}{new:List (PV×PV)}{F:Nat->FR}{p:PF×List (PV×PV)}{g' cap':Nat}{o:Obj}
  (h:FsInv M w wr s t tb mb ps Fs zs k rv us fs new) (hM:∀k,M k->k<w.heap.size) (hF:Fs[k]?=some F) (hp:F (ps++new).length=some p) (hz:zs[k]?=some z)
  (hg2:wr.grownBy w2 (some mb)) (hsg:SgR t t2) (hnl:t2.ns.length<=t.ns.length+z) (hrd:Rdr (Mr M rv) w2 t2 tb mb ((ps++new)++p.2)) (hrep:RFm (Mr M rv) w2 t2 u p.1)
  (hown:w3.ownsRow w.heap.size TForm 1 (.slice (some ⟨g',0,none⟩) (k+1) cap') (k+1) (us++[u])) (hg:(w2.alloc o).grownBy w3 rv.ownBlock) (hat:rv.ownBlock=some g'\/g'=w2.heap.size+1) :
  FsInv M w w3 s t2 tb mb ps Fs zs (k+1) (.slice (some ⟨g',0,none⟩) (k+1) cap') (us++[u]) (fs++[p.1]) (new++p.2):=by
 have hge:∀j,rv.ownBlock=some j->w.heap.size<=j:=fun j hj=>(h.row.lt j hj).1;have hs2:Stp (Mr M rv) wr (Mr M rv) w2:=eL hg2 h.rd.mmb;have hw2:w.heap.size<=w2.heap.size:=Nat.le_trans h.stp.size hs2.size
 have hg'ge:w.heap.size<=g':=by
  rcases hat with h1 | h1
  ·exact hge _ h1
  ·omega
 have st1:Stp (Mr M rv) w2 (Mr M (.slice (some ⟨g',0,none⟩) (k+1) cap')) w3:=by
  have hb:Below w2.heap.size w2 (w2.alloc o):=(Below.refl _ _).alloc (Nat.le_refl _) _;refine⟨hg.os.trans hb.os,hg.tape.trans hb.tape,hg.output.trans hb.output,Nat.le_trans hb.size hg.size,fun j hj hn=>⟨?_,?_⟩⟩
  ·rw [hg.block j (Nat.lt_of_lt_of_le hj hb.size) (fun e=>hn (.inr e.symm)),hb.block j hj]
  ·rintro(x | x)
   ·exact hn (.inl x)
   ·simp only [Value.ownBlock,Option.some.injEq] at x;subst x;rcases hat with h1 | h1
    ·exact hn (.inr h1)
    ·omega
 have hmb:∀j,some j=rv.ownBlock->j≠mb:=fun j hj e=>by
  have:=hM mb (h.rd.mmb.elim id (fun x=>by
   subst e
   exact absurd x (by
    intro x;have h1:=hge _ x;obtain⟨D,⟨es,cl,hb,_⟩,_⟩:=h.rd.tab.map;rcases h.row.2 with⟨hv,_⟩ | ⟨g,cap,cur,hv,_,hgc,_⟩
    ·rw [hv] at x;simp [Value.ownBlock] at x
    ·rw [hv] at x;simp only [Value.ownBlock,Option.some.injEq] at x;subst x;rw [hgc] at hb;simp at hb)))
  have:=hge j hj.symm;omega
 have hlt2:=hrd.tab.lt;have hb:Below w2.heap.size w2 (w2.alloc o):=(Below.refl _ _).alloc (Nat.le_refl _) _;refine⟨hown,by simp [h.ul],by simp [h.fl],⟨?_,?_,?_,?_,?_⟩,(h.stp.trans hs2).trans st1,?_,h.sg.trans hsg,?_,?_,?_⟩
 ·refine hrd.tab.keep (st1.block tb hlt2.1 hrd.mtb).1 ?_;rw [hg.block mb (Nat.lt_of_lt_of_le hlt2.2 hb.size) (fun e=>hmb mb e rfl),hb.block mb hlt2.2]
 ·rw [<- List.append_assoc];exact hrd.pairs.stp st1
 ·exact .inl (h.rd.mmb.elim id (fun x=>absurd rfl (hmb mb x.symm)))
 ·exact(st1.block tb hlt2.1 hrd.mtb).2
 ·rintro j (x | x)
  ·exact Nat.lt_of_lt_of_le (hM j x) (Nat.le_trans hw2 st1.size)
  ·exact(hown.lt j x).2
 ·have g1:=aM h.gm hg2;refine⟨hg.os.trans (hb.os.trans g1.os),hg.tape.trans (hb.tape.trans g1.tape),hg.output.trans (hb.output.trans g1.output),Nat.le_trans g1.size (Nat.le_trans hb.size hg.size),fun j hj hn=>?_⟩;have hj2:=Nat.lt_of_lt_of_le hj g1.size;rw [hg.block j (Nat.lt_of_lt_of_le hj2 hb.size) (fun e=>by have:=hge j e.symm;omega),hb.block j hj2,g1.block j hj hn]
 ·rw [Pl.sum_take zs k z hz];have:=h.nl;omega
 ·intro i u' x hu hx;rcases p5 hu with hu | ⟨hi,rfl⟩
  ·rw [List.getElem?_append_left (by have:=(List.getElem?_eq_some_iff.1 hu).1;have:=h.ul;have:=h.fl;omega)] at hx;exact(h.rep i u' x hu hx).go (hs2.trans st1) hsg.le
  ·rw [hi,h.ul,<-h.fl] at hx;simp at hx;subst hx;exact hrep.go st1 (Sg.Le.refl _)
 ·have:=h.left.more hF (by rw [<- List.length_append];exact hp);exact this
theorem FsInv.done{wr:World}{s t:Sg}{ps:List (PV×PV)}{Fs:List (Nat->FR)}{zs:List Nat}{k:Nat}{rv:Value}{fs:List PF}{new:List (PV×PV)}
  (h:FsInv M w wr s t tb mb ps Fs zs k rv us fs new) (h0:Rdr M w s tb mb ps) (hk:k=Fs.length):w.grownBy wr (some mb)/\Rdr M wr t tb mb (ps++new)/\Sl M wr TForm 1 rv k us/\All2 (RFm M wr t) us fs/\Pl.seqL Fs ps.length=some (fs,new):=by
 subst hk;refine⟨h.gm,⟨h.rd.tab,h.rd.pairs.weaken (fun _ x=>.inl x),h0.mmb,h0.mtb,fun j hj=>h.rd.mlt j (.inl hj)⟩,?_,⟨by rw [h.ul,h.fl],fun i u x hu hx=>(h.rep i u x hu hx).weaken (fun _ y=>.inl y)⟩,h.left.done⟩;refine⟨h.row.1,?_⟩;rcases h.row.2 with⟨hv,h0'⟩ | ⟨g,cap,cur,hv,hge,hg,hc,_,_,ht⟩
 ·exact⟨none,0,by rw [h0'];exact hv,by omega,.inl h0'⟩
 ·refine⟨some ⟨g,0,none⟩,cap,hv,hc,.inr ⟨g,0,cur,rfl,fun x=>by have:=h0.mlt g x;omega,hg,?_⟩⟩;intro i u hu;rw [Nat.zero_add];rw [<- ht,List.getElem?_take] at hu;split at hu
  ·simpa using hu
  ·cases hu
theorem u3(M:Nat->Prop)(w:World)(s:Sg)(tb mb:Nat)(ps:List (PV×PV))(sl:Value)(vs:List Value)(Fs:List (Nat->FR))(zs:List Nat)(hR:Rdr M w s tb mb ps)(hS:DRow M w sl vs)(hl:vs.length=Fs.length)(hzl:zs.length=Fs.length)(hlen:Fs.length<=2000)(hz:s.ns.length+zs.sum<=NsMax)(hv1:∀v∈vs,∃T x,v=.iface T x)
  (hF:∀(i:Nat)(v:Value)(F:Nat->FR)(z:Nat),vs[i]?=some v->Fs[i]?=some F->zs[i]?=some z->FCall M w v F z) :
  Calls prog 189 #[rdV tb,sl] w fun e w'=>FmsPost M w s tb mb ps (Pl.seqL Fs ps.length) Fs.length zs.sum e w':=by
 obtain⟨i0,hi0,hz0,hz1,hz2⟩:=info_parts Tryz.infoFm;have HR:Hid (Rdr M w s tb mb ps):=hR;have HS:Hid (DRow M w sl vs):=hS;obtain⟨_,ao,cap,rfl,hcap,_⟩:=hS;rw [hl] at hcap ⊢;have HV:Hid (vs.length=Fs.length):=hl;have HZ:Hid (zs.length=Fs.length):=hzl;have HN:Hid (s.ns.length+zs.sum<=NsMax):=hz;have HFm:Hid (∀(i:Nat)(v:Value)(F:Nat->FR)(z:Nat),vs[i]?=some v->Fs[i]?=some F->zs[i]?=some z->FCall M w v F z):=hF;have HI:Hid (∀v∈vs,∃T x,v=.iface T x):=hv1;have HB1:Hid (Below w.heap.size w (w.alloc (rdO tb))):=(Below.refl _ _).alloc (Nat.le_refl _) _;have HR1:Hid (Rdr M (w.alloc (rdO tb)) s tb mb ps):=hR.below HB1.out;have hw1:(w.alloc (rdO tb)).heap[w.heap.size]?=some (rdO tb):=heap_alloc_new _ _;have HW1:Hid _:=hw1;have hnm:¬M w.heap.size:=fun hm=>by have:=hR.mlt _ hm;omega
 have HNM:Hid (¬M w.heap.size):=hnm;unfold rdV;clear hF hl hzl hz hv1 hR hw1 hnm;go_enter func189,ntmps189;go_wp2_with fail
 go_loopw [6,13] (fun sv i wr=>∃(k:Nat)(us:List Value)(t:Sg)(fs:List PF) (new:List (PV×PV)),k<=Fs.length/\i=.int .i64 k/\Hid (FsInv M (w.alloc (rdO tb)) wr s t tb mb ps Fs zs k sv us fs new)) (fun _ i _=>Fs.length-(intOf i).toNat)
 case atStart=>exact⟨0,[],s,[],[],Nat.zero_le _,rfl,FsInv.start Fs zs HR1.out (Below.refl _ _)⟩
 case round =>
  obtain⟨k,us,t,fs,new,hk,rfl,HQ⟩:=hrel;by_cases hlt:k<Fs.length
  ·obtain⟨u,hu⟩:∃u,vs[k]?=some u:=⟨vs[k]'(by have:=HV.out;omega),List.getElem?_eq_getElem (by have:=HV.out;omega)⟩
   obtain⟨F,hF⟩:∃x,Fs[k]?=some x:=⟨Fs[k],List.getElem?_eq_getElem hlt⟩
   obtain⟨z,hzk⟩:∃x,zs[k]?=some x:=⟨zs[k]'(by have:=HZ.out;omega),List.getElem?_eq_getElem (by have:=HZ.out;omega)⟩
   have hst:Stp M w (Mr M u6) wr:=(Stp.of_below HB1.out).trans HQ.out.stp;have hS2:=(Sl.stp hst HS.out).slOf;obtain⟨ao',cap',e',_,hcc⟩:=hS2;simp only [Value.slice.injEq] at e';obtain⟨rfl,_,rfl⟩:=e';obtain⟨g,off,rfl,hg,hc⟩:=hcc k u hu;have c0:wr.cell? ⟨w.heap.size,0,none⟩=some (.pointer (some ⟨tb,0,none⟩)):=by have:=(HQ.out.stp.block w.heap.size (by simp) HNM.out).1.trans HW1.out;exact aA this 0
   have HC:Hid (FCall (Mr M u6) wr u F z):=(HFm.out k u F z hu hF hzk).go hst;obtain⟨T,y,rfl⟩:=HI.out u (List.mem_of_getElem? hu);have HFk:Hid (Fs[k]?=some F):=hF;have HZk:Hid (zs[k]?=some z):=hzk;have HNl:Hid (t.ns.length+z<=NsMax):=show _<=_ from by have h1:=HQ.out.nl;have h2:=Pl.sum_take zs k z hzk;have h3:=Pl.take_sum_le zs (k+1);have h4:=HN.out;omega
   have hlt2:(k:Int)<(Fs.length:Int):=by omega
   clear hcc hst hu hF hzk hlt;go_wp2_with fail;refine(HC.out _ wr t tb mb _ (Stp.refl _ _) HQ.out.rd HNl.out).mono ?_;rintro e w2 ⟨hg2,t2,hsg,hnl,⟨r,v,hr,rfl,hrd,hrep⟩ | ⟨hr,hpb,hrd,v,es,rfl⟩⟩
   ·have HP:Hid (∀(w3:World)(g' cap':Nat)(o:Obj),w3.ownsRow (w.alloc (rdO tb)).heap.size TForm 1 (.slice (some ⟨g',0,none⟩) (k+1) cap') (k+1) (us++[v])->(w2.alloc o).grownBy w3 u6.ownBlock->(u6.ownBlock=some g'\/g'=w2.heap.size+1) ->
      FsInv M (w.alloc (rdO tb)) w3 s t2 tb mb ps Fs zs (k+1) (.slice (some ⟨g',0,none⟩) (k+1) cap') (us++[v]) (fs++[r.1]) (new++r.2)):=fun w3 g' cap' o h1 h2 h3=>HQ.out.push HR1.out.mlt HFk.out hr HZk.out hg2 hsg hnl hrd hrep h1 h2 h3
    have HO2:Hid (w2.ownsRow (w.heap.size+1) TForm 1 u6 k us):=show World.ownsRow _ _ _ _ _ _ _ from by
     have:=HQ.out.row.kept hg2 (.inr (fun e=>by
      have:=(HQ.out.row.lt mb e).1;have:=HR1.out.mlt mb HR1.out.mmb
      omega))
     rwa [show(w.alloc (rdO tb)).heap.size=w.heap.size+1 from by simp] at this
    have hw2:w.heap.size+1<=w2.heap.size:=by have h1:=HQ.out.gm.size;have h2:=hg2.size;rw [show(w.alloc (rdO tb)).heap.size=w.heap.size+1 from by simp] at h1;omega
    rw [show(w.alloc (rdO tb)).heap.size=w.heap.size+1 from by simp] at HP;obtain⟨Tf,xf,rfl⟩:=hrep.iface;clear hg2 hsg hnl hr hrd hrep c0 hc;go_wp2_with (first | (at_builtin;refine wpList_append_lies _ rfl _ _ 345 rfl (w.heap.size+1) 61 i0 .nilIface 1 16 underlying345 hi0 hz0 hz1 hz2 rfl (by decide) u6 k us rfl (HO2.out.alloc _) ⟨w2.heap.size,0,none⟩ 1 1 [.iface Tf xf] rfl rfl (cell_one_new _ _ _) (fun x hx=>by simp at hx;subst hx;rfl) (by decide) (by unfold maxLen;omega) (by omega) (by simp;omega) (w2.heap.size+1) (by simp) ?_;intro g' cap' w3 hown' hgrow3 hat3 _))
    go_roundw
    case rel=>exact⟨k+1,_,_,_,_,by omega,by go_num,HP.out w3 g' cap' _ hown' hgrow3 hat3⟩
    case measure=>simp [intOf];omega
   ·have HE:Hid (Pl.seqL Fs ps.length=none):=HQ.out.left.none_ HFk.out (by rw [<- List.length_append];exact hr);have hgw:w.grownBy w2 (some mb):=aM (aI HB1.out) (aM HQ.out.gm hg2);obtain⟨t3,p1,p2,p3,p4⟩:=HR.out.fail hgw ⟨hrd.tab,hrd.pairs.weaken (fun _ x=>.inl x),HR.out.mmb,HR.out.mtb,fun j hj=>hrd.mlt j (.inl hj)⟩ (HQ.out.sg.trans hsg);have HT:Hid (t3.ns.length<=s.ns.length+zs.sum):=show _<=_ from by rw [p2];have h1:=HQ.out.nl;have h2:=Pl.sum_take zs k z HZk.out;have h3:=Pl.take_sum_le zs (k+1);omega
    have HP:Hid (t3.pb=s.pb/\SgR s t3/\Rdr M w2 t3 tb mb ps):=⟨p1,p3,p4⟩
    have HG:Hid (w.grownBy w2 (some mb)):=hgw;clear hg2 hsg hnl hr hrd hpb p1 p2 p3 p4 hgw c0 hc;unfold aY;go_wp2_with fail;go_ret2;exact⟨HG.out,t3,HP.out.2.1,HT.out,.inr ⟨HE.out,HP.out.1,HP.out.2.2,_,_,rfl⟩⟩
  ·have hk2:k=Fs.length:=by omega
   obtain⟨d1,d2,d3,d4,d5⟩:=HQ.out.done HR1.out hk2;have HD:Hid (w.grownBy wr (some mb)/\Rdr M wr t tb mb (ps++new)/\All2 (RFm M wr t) us fs/\Pl.seqL Fs ps.length=some (fs,new)):=⟨aM (aI HB1.out) d1,d2,d4,d5⟩
   have HX:Hid (SgR s t/\t.ns.length<=s.ns.length+zs.sum):=⟨HQ.out.sg,by
    have h1:=HQ.out.nl;have h3:=Pl.take_sum_le zs k
    omega⟩
   have HSl:Hid (Sl M wr TForm 1 u6 Fs.length us):=show Sl _ _ _ _ _ _ _ from by rw [<- hk2];exact d3
   have HUl:Hid (us.length=Fs.length):=show us.length=Fs.length from by rw [<- hk2];exact HQ.out.ul
   obtain⟨_,ao2,cap2,rfl,_⟩:=HSl.out;clear d1 d2 d3 d4 d5 hk2;go_wp2_with fail;go_ret2;exact⟨HD.out.1,t,HX.out.1,HX.out.2,.inl ⟨_,_,us,HD.out.2.2.2,rfl,HD.out.2.1,HSl.out,HUl.out,HD.out.2.2.1⟩⟩
end
end Go.Proofs.YtkgbdddkcjpgfaaGreatDoor
