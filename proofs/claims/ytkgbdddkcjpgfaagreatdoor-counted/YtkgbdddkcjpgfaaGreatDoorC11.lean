import Derived.Test.YtkgbdddkcjpgfaaGreatDoorC10
namespace Go.Proofs.YtkgbdddkcjpgfaaGreatDoor
set_option maxHeartbeats 4000000
set_option maxRecDepth 100000
open Go.Proofs.Tryz
open Pl (PV PF FR Byt FK formOf tsz mkF kwB fmF isName)
section
open Go.RowKit
variable {M:Nat->Prop} {w w2:World} {mb tb:Nat} {ev:Value}
theorem bW{fn:Func}{p u v:Tmp}{ty:TypeId}(h:fn.results=#[.cell p ty,.tmp u,.tmp v])(tmps:Array Value)(P:Program)(w:World) :(results fn tmps).run P w=((asAddr (tmps.getD p undef)).run P w).andThen fun a w₁=>((loadVar ty a).run P w₁).andThen fun x w₂=>.ok (.tuple #[x,tmps.getD u undef,tmps.getD v undef]) w₂:=by simp only [results,h];simp [Sem.run_bind,Result.andThen]
theorem Rdr.rebuild{w3:World}{s t:Sg}{ps:List (PV×PV)}(h:Rdr M w s tb mb ps)(hg:w.grownBy w3 (some mb))(ht:Tab w3 tb mb t.ns)(hr:SgR s t)(hp:t.pb=s.pb):Rdr M w3 t tb mb ps :=⟨ht,(h.pairs.stp (eL hg h.mmb)).le hr.le hp,h.mmb,h.mtb,fun k hk=>Nat.lt_of_lt_of_le (h.mlt k hk) hg.size⟩
def NmQ(M:Nat->Prop)(w:World)(s:Sg)(tb mb:Nat)(ps:List (PV×PV))(t:Tr)(bs:ByteArray)(k:Int)(ev:Value)(w':World):Prop :=
 w.grownBy w' (some mb) /\
  ((∃x,t=.lit (.string x)/\kwB x=false/\bs=⟨x.toArray⟩/\k=((s.ns.idxOf x:Nat):Int)/\ev=.nilIface/\Rdr M w' (s.named x) tb mb ps) \/
   (isName t=false/\Rdr M w' s tb mb ps/\∃es,ev=aY es 5))
theorem belSet{base:Nat}{X Y:World}{R:Nat}(h:Below base X Y)(hR:base<=R)(o:Nat)(v:Value):Below base X (Y.setCell ⟨R,o,none⟩ v) :=⟨h.os,h.tape,h.output,by simpa [World.setCell] using h.size,fun k hk=>by rw [Below.heap_setCell _ _ _ _ (fun e=>by have:k=R:=(by simpa using e);omega)];exact h.block k hk⟩
theorem NmQ.to{w1 wx:World}{s:Sg}{ps:List (PV×PV)}{t:Tr}{bs:ByteArray}{k:Int}(hq:NmQ M w1 s tb mb ps t bs k ev w2)(hR:Rdr M w s tb mb ps)(hb:Below w.heap.size w w1)(hx:Below w.heap.size w2 wx):NmQ M w s tb mb ps t bs k ev wx:=by
 obtain⟨hg,h⟩:=hq;have hlt:=hR.tab.lt;have hgx:w.grownBy wx (some mb):=⟨hx.os.trans (hg.os.trans hb.os),hx.tape.trans (hg.tape.trans hb.tape),hx.output.trans (hg.output.trans hb.output),Nat.le_trans hb.size (Nat.le_trans hg.size hx.size),fun j hj hn=>by rw [hx.block j hj,hg.block j (Nat.lt_of_lt_of_le hj hb.size) hn,hb.block j hj]⟩
 refine⟨hgx,?_⟩;rcases h with⟨x,h1,h2,h3,h4,h5,h6⟩ | ⟨h1,h2,h3⟩
 ·exact .inl ⟨x,h1,h2,h3,h4,h5,hR.rebuild hgx (h6.tab.keep (hx.block _ hlt.1) (hx.block _ hlt.2)) (s.named_r x) rfl⟩
 ·exact .inr ⟨h1,hR.rebuild hgx (h2.tab.keep (hx.block _ hlt.1) (hx.block _ hlt.2)) (SgR.refl s) rfl,h3⟩
theorem iR(w:World)(o1 o2 o3:Obj):(((w.alloc o1).alloc o2).alloc o3).heap[w.heap.size]?=some o1/\(((w.alloc o1).alloc o2).alloc o3).heap[w.heap.size+1]?=some o2/\(((w.alloc o1).alloc o2).alloc o3).heap[w.heap.size+2]?=some o3/\((w.alloc o1).alloc o2).heap[w.heap.size]?=some o1/\((w.alloc o1).alloc o2).heap[w.heap.size+1]?=some o2:=by have a1:=heap_alloc_new w o1;have a2:=heap_alloc_new (w.alloc o1) o2;have a3:=heap_alloc_new ((w.alloc o1).alloc o2) o3;rw [show(w.alloc o1).heap.size=w.heap.size+1 from by simp] at a2;rw [show((w.alloc o1).alloc o2).heap.size=w.heap.size+2 from by simp] at a3;have b1:((w.alloc o1).alloc o2).heap[w.heap.size]?=some o1:=(Below.heap_alloc _ _ _ (aB a1)).trans a1;exact⟨(Below.heap_alloc _ _ _ (aB b1)).trans b1,(Below.heap_alloc _ _ _ (aB a2)).trans a2,a3,b1,a2⟩
theorem NmPost.one{s:Sg}{ps:List (PV×PV)}{t:Tr}{e:Ending}{w':World}(h:NmPost M w s tb mb ps t e w'):∃bs k ev,e=.returned (.tuple #[.agg #[.string bs,.int .i64 k],ev])/\NmQ M w s tb mb ps t bs k ev w':=by
 obtain⟨hg,⟨x,h1,h2,h3,h4⟩ | ⟨h1,h2,es,h3⟩⟩:=h
 ·exact⟨_,_,_,h3,hg,.inl ⟨x,h1,h2,rfl,rfl,rfl,h4⟩⟩
 ·exact⟨_,_,_,h3,hg,.inr ⟨h1,h2,es,rfl⟩⟩
def FmQ(M:Nat->Prop)(w:World)(s:Sg)(tb mb:Nat)(ps:List (PV×PV))(o:FR)(z:Nat)(v ev:Value)(w':World):Prop :=
 w.grownBy w' (some mb)/\∃t,SgR s t/\t.ns.length<=s.ns.length+z /\
  ((∃r,o=some r/\ev=.nilIface/\Rdr M w' t tb mb (ps++r.2)/\RFm M w' t v r.1)\/(o=none/\t.pb=s.pb/\Rdr M w' t tb mb ps/\∃es,ev=aY es 5))
theorem FmPost.one{s:Sg}{ps:List (PV×PV)}{o:FR}{z:Nat}{e:Ending}{w':World}(h:FmPost M w s tb mb ps o z e w'):∃v ev,e=.returned (.tuple #[v,ev])/\FmQ M w s tb mb ps o z v ev w':=by
 obtain⟨hg,t,h1,h2,⟨r,v,h3,h4,h5,h6⟩ | ⟨h3,h4,h5,v,es,h6⟩⟩:=h
 ·exact⟨_,_,h4,hg,t,h1,h2,.inl ⟨r,h3,rfl,h5,h6⟩⟩
 ·exact⟨_,_,h6,hg,t,h1,h2,.inr ⟨h3,h4,h5,es,rfl⟩⟩
def nmZ:Obj:=.cells #[.string ⟨#[]⟩,.int .i64 0] TNam (0,0)
def NfCut(M:Nat->Prop)(w:World)(s:Sg)(tb mb:Nat)(ps:List (PV×PV))(t1:Tr)(bs:ByteArray)(kk:Int)(b3:Nat)(e8:Value)(wx:World):Prop :=w.heap.size+2<=b3/\wx.heap[b3]?=some (.cells #[.string bs,.int .i64 kk] TNam (0,0))/\wx.heap[w.heap.size]?=some (rdO tb)/\wx.heap[w.heap.size+1]?=some nmZ/\NmQ M w s tb mb ps t1 bs kk e8 wx
theorem nf_cutA{s:Sg}{ps:List (PV×PV)}{t1:Tr}{bs:ByteArray}{kk:Int}(hR:Rdr M w s tb mb ps)(hq:NmQ M ((w.alloc (rdO tb)).alloc nmZ).drew s tb mb ps t1 bs kk ev w2):NfCut M w s tb mb ps t1 bs kk w2.heap.size ev (w2.alloc (.cells #[.string bs,.int .i64 kk] TNam)):=by
 have hmb:=hR.tab.lt.2;have hz:w.heap.size+2<=w2.heap.size:=by have:=hq.1.size;simpa using this
 obtain⟨_,_,_,a1,a2⟩:=iR w (rdO tb) nmZ nmZ;have e1:=(hq.1.block w.heap.size (by show _<((w.alloc _).alloc _).heap.size;simp<;>omega) (by simp;omega)).trans a1;have e2:=(hq.1.block (w.heap.size+1) (by show _<((w.alloc _).alloc _).heap.size;simp<;>omega) (by simp;omega)).trans a2;exact⟨hz,heap_alloc_new _ _,(Below.heap_alloc _ _ _ (aB e1)).trans e1,(Below.heap_alloc _ _ _ (aB e2)).trans e2,hq.to hR (bA w _ _).drew ((Below.refl _ _).alloc (by omega) _)⟩
theorem nf_cutB{s:Sg}{ps:List (PV×PV)}{t1:Tr}{bs:ByteArray}{kk:Int}(hR:Rdr M w s tb mb ps)(hq:NmQ M (((w.alloc (rdO tb)).alloc nmZ).alloc nmZ).drew s tb mb ps t1 bs kk ev w2):NfCut M w s tb mb ps t1 bs kk (w.heap.size+2) ev ((w2.setCell ⟨w.heap.size+2,0,none⟩ (.string bs)).setCell ⟨w.heap.size+2,1,none⟩ (.int .i64 kk)):=by
 have hmb:=hR.tab.lt.2;obtain⟨a1,a2,a3,_,_⟩:=iR w (rdO tb) nmZ nmZ;have e1:=(hq.1.block w.heap.size (by show _<(((w.alloc _).alloc _).alloc _).heap.size;simp<;>omega) (by simp;omega)).trans a1;have e2:=(hq.1.block (w.heap.size+1) (by show _<(((w.alloc _).alloc _).alloc _).heap.size;simp<;>omega) (by simp;omega)).trans a2;have e3:=(hq.1.block (w.heap.size+2) (by show _<(((w.alloc _).alloc _).alloc _).heap.size;simp<;>omega) (by simp;omega)).trans a3;refine⟨Nat.le_refl _,?_,?_,?_,hq.to hR ((bA w _ _).alloc (by simp;omega) _).drew (belSet (belSet (Below.refl _ _) (by omega) _ _) (by omega) _ _)⟩
 ·have:=aD (aD e3 0 (.string bs)) 1 (.int .i64 kk);simpa using this
 ·rw [Below.heap_setCell _ _ _ _ (by simp),Below.heap_setCell _ _ _ _ (by simp)];exact e1
 ·rw [Below.heap_setCell _ _ _ _ (by simp),Below.heap_setCell _ _ _ _ (by simp)];exact e2
def nfO(n b:Nat)(ts:List Tr):Option (Byt×PF×List (PV×PV)):=match ts with
 | [a,e]=>if isName a then(fmF (formOf n e) b).map fun r=>(Pl.strOf a,r) else none
 | _=>none
def NFPost(M:Nat->Prop)(w:World)(s:Sg)(tb mb:Nat)(ps:List (PV×PV))(o:Option (Byt×PF×List (PV×PV)))(z:Nat)(e:Ending)(w':World):Prop :=
 w.grownBy w' (some mb)/\∃t,SgR s t/\t.ns.length<=s.ns.length+z /\
  ((∃x r k v,o=some (x,r)/\e=.returned (.tuple #[.agg #[.string ⟨x.toArray⟩,.int .i64 ((k:Nat):Int)],v,.nilIface])/\t.ns[k]?=some x/\Rdr M w' t tb mb (ps++r.2)/\RFm M w' t v r.1) \/
   (o=none/\t.pb=s.pb/\Rdr M w' t tb mb ps/\∃es,e=.returned (.tuple #[.agg #[.string ⟨#[]⟩,.int .i64 0],.nilIface,aY es 5])))
theorem nfO_not{n b:Nat}{ts:List Tr}(h:¬ts.length=2):nfO n b ts=none:=by
 match ts,h with
 | [],_=>rfl
 | [_],_=>rfl
 | _::_::_::_,_=>rfl
theorem wQ{wx:World}{g off L cap:Nat}{vs:List Value}(h:DRow M w (.slice (some ⟨g,off,none⟩) L cap) vs)(hg:w.grownBy wx (some mb))(hm:M mb)(i:Nat)(u:Value)(hu:vs[i]?=some u):wx.cell? ⟨g,off+i,none⟩=some u:=by
 obtain⟨_,ao,c,e,_,h3⟩:=Sl.stp (eL hg hm) h;simp only [Value.slice.injEq] at e;obtain⟨rfl,_,_⟩:=e;rcases h3 with h0 | ⟨g',off',cur,e2,_,hgc,hcur⟩
 ·have:=(List.getElem?_eq_some_iff.1 hu).1;omega
 ·simp only [Option.some.injEq,Addr.mk.injEq,and_true] at e2;obtain⟨rfl,rfl⟩:=e2;rw [aA hgc];exact hcur i u hu
theorem fY(n:Nat)(hF:FSaid n)(M:Nat->Prop)(w:World)(s:Sg)(tb mb:Nat)(ps:List (PV×PV))(sl:Value)(vs:List Value)(ts:List Tr)(hR:Rdr M w s tb mb ps)(hS:DRow M w sl vs)(hA:AllD M n w vs ts)(hB:∀x∈ts,cL n x)(hz:s.ns.length+(ts.map (tsz n)).sum<=NsMax)(o:Option (Byt×PF×List (PV×PV)))(ho:o=nfO n ps.length ts) :Calls prog 111 #[rdV tb,sl] w fun e w'=>NFPost M w s tb mb ps o (ts.map (tsz n)).sum e w':=by
 have HR:Hid (Rdr M w s tb mb ps):=hR;have hvl:=hA.1;unfold rdV;by_cases h2:ts.length=2
 ·obtain⟨t1,t2,rfl⟩:=fO h2;obtain⟨u1,u2,rfl⟩:=fO (hvl.trans h2);have r1:=hA.2 0 u1 t1 rfl rfl;have r2:=hA.2 1 u2 t2 rfl rfl;have HR1:Hid (RepP (fun k=>¬M k) n w u1 t1):=r1;have HF2:Hid (FCall M w u2 (fmF (formOf n t2)) (tsz n t2)):=hF M w u2 t2 r2 (hB t2 (by simp))
  have HBx:Hid (∀x,t1=.lit (.string x)->x.length<=1000/\s.ns.length+1+tsz n t2<=NsMax/\s.ns.length+1+tsz n t2=s.ns.length+([t1,t2].map (tsz n)).sum):=fun x hx=>by
   subst hx
   cases n with
   | zero=>exact r1.elim
   | succ n =>
    refine⟨Nat.le_trans (show x.length<=300 from hB (.lit (.string x)) (by simp)) (by decide),?_,?_⟩
    ·simp only [List.map_cons,List.map_nil,List.sum_cons,List.sum_nil] at hz;rw [show tsz (n+1) (.lit (.string x))=1 from rfl] at hz;omega
    ·simp only [List.map_cons,List.map_nil,List.sum_cons,List.sum_nil];rw [show tsz (n+1) (.lit (.string x))=1 from rfl];omega
  have HO:Hid (o=if isName t1 then(fmF (formOf n t2) ps.length).map fun r=>(Pl.strOf t1,r) else none):=ho;obtain⟨T1,x1,rfl,o1⟩:=r1.iface;obtain⟨T2,x2,rfl,o2⟩:=r2.iface;have hS0:=(Sl.slOf hS)
  obtain⟨g,off,cap,rfl,hcap,hg,k0,ks⟩:=hS0.cell0;have k1:=ks 0 _ rfl;simp only [Nat.zero_add,List.length_cons,List.length_nil] at k1 hcap ⊢;have HCell:Hid (∀wx:World,w.grownBy wx (some mb)->wx.cell? ⟨g,off+1,none⟩=some (.iface T2 x2)):=fun wx hgx=>wQ hS hgx HR.out.mmb 1 _ rfl;clear hA hB hF r1 r2 hvl h2 ks hS0 hR o1 o2 hz ho hS;go_enter func111,ntmps111
  go_upto_region 40 with fail
  have HMb:Hid (mb<w.heap.size):=HR.out.tab.lt.2;have q3:∀o1 o2 o3:Obj,(((w.alloc o1).alloc o2).alloc o3).cell? ⟨g,off,none⟩=some (.iface T1 x1):=fun o1 o2 o3=>(((bA w o1 o2).alloc (by simp;omega) o3).cell (p:=⟨g,off,none⟩) hg).trans k0;have q2:∀o1 o2:Obj,((w.alloc o1).alloc o2).cell? ⟨g,off,none⟩=some (.iface T1 x1):=fun o1 o2=>((bA w o1 o2).cell (p:=⟨g,off,none⟩) hg).trans k0;have s0:∀o1 o2 o3:Obj,(((w.alloc o1).alloc o2).alloc o3).heap.size=w.heap.size+3:=fun _ _ _=>by simp
  go_cut [7,8] (fun n7 e8 wx=>∃(bs:ByteArray)(kk:Int)(b3:Nat),n7=.pointer (some ⟨b3,0,none⟩)/\Hid (NfCut M w s tb mb ps t1 bs kk b3 e8 wx))
  case first =>
   have HN:Hid (Calls prog 113 #[.agg #[.pointer (some ⟨tb,0,none⟩)],.iface T1 x1] ((w.alloc (rdO tb)).alloc (.cells #[.string ⟨#[]⟩,.int .i64 0] TNam)).drew fun e w'=>∃bs kk ev,e=.returned (.tuple #[.agg #[.string bs,.int .i64 kk],ev])/\Hid (NmQ M ((w.alloc (rdO tb)).alloc (.cells #[.string ⟨#[]⟩,.int .i64 0] TNam)).drew s tb mb ps t1 bs kk ev w')) :=(qP _ n w M _ s tb mb ps _ t1 HR1.out (HR.out.below (bA w (rdO tb) (.cells #[.string ⟨#[]⟩,.int .i64 0] TNam)).drew) (fun x hx=>⟨(HBx.out x hx).1,by have:=(HBx.out x hx).2.1;omega⟩)).mono (fun e w' h=>h.one)
   have HN2:Hid (Calls prog 113 #[.agg #[.pointer (some ⟨tb,0,none⟩)],.iface T1 x1] (((w.alloc (rdO tb)).alloc (.cells #[.string ⟨#[]⟩,.int .i64 0] TNam)).alloc (.cells #[.string ⟨#[]⟩,.int .i64 0] TNam)).drew fun e w'=>∃bs kk ev,e=.returned (.tuple #[.agg #[.string bs,.int .i64 kk],ev])/\Hid (NmQ M (((w.alloc (rdO tb)).alloc (.cells #[.string ⟨#[]⟩,.int .i64 0] TNam)).alloc (.cells #[.string ⟨#[]⟩,.int .i64 0] TNam)).drew s tb mb ps t1 bs kk ev w')/\w'.cell? ⟨w.heap.size+2,0,none⟩=some (.string ⟨#[]⟩)/\w'.cell? ⟨w.heap.size+2,1,none⟩=some (.int .i64 0)/\w'.frozen? ⟨w.heap.size+2,0,none⟩=false/\w'.frozen? ⟨w.heap.size+2,1,none⟩=false) :=
    (qP _ n w M _ s tb mb ps _ t1 HR1.out (HR.out.below ((bA w (rdO tb) (.cells #[.string ⟨#[]⟩,.int .i64 0] TNam)).alloc (by simp;omega) _).drew) (fun x hx=>⟨(HBx.out x hx).1,by have:=(HBx.out x hx).2.1;omega⟩)).mono (fun e w' h=>by
     obtain⟨bs,kk,ev,h1,h2⟩:=h.one;have hb:=(h2.1.block (w.heap.size+2) (by show _<((((w.alloc _).alloc _).alloc _)).heap.size;simp) (by have:=HMb.out;simp;omega)).trans (iR w (rdO tb) (.cells #[.string ⟨#[]⟩,.int .i64 0] TNam) (.cells #[.string ⟨#[]⟩,.int .i64 0] TNam)).2.2.1
     exact⟨bs,kk,ev,h1,h2,aA hb 0,aA hb 1,aF hb 0,aF hb 1⟩)
   go_region_with (go_at_call 113;first | (refine Calls.mono HN.out ?_;rintro e w2 ⟨bs,kk,ev,rfl,HQ⟩) | (refine Calls.mono HN2.out ?_;rintro e w2 ⟨bs,kk,ev,rfl,HQ,c0,c1,f0,f1⟩))
   all_goals
    go_wp2_with fail
    go_meet
    first
    | exact⟨_,_,_,rfl,nf_cutA HR.out HQ.out⟩
    | exact⟨_,_,_,rfl,nf_cutB HR.out HQ.out⟩
  case rest =>
   obtain⟨bs,kk,b3,rfl,HC⟩:=hcut;obtain⟨wa,hwa⟩:∃wa,wa=wc:=⟨_,rfl⟩
   subst hwa;obtain⟨hb3,hbk,hbox,hres,hgx,hq⟩:=HC.out;have HGx:Hid (w.grownBy wa (some mb)):=hgx;have c0:wa.cell? ⟨w.heap.size,0,none⟩=some (.pointer (some ⟨tb,0,none⟩)):=aA hbox 0;have c1:=HCell.out wa hgx;have r0:wa.cell? ⟨w.heap.size+1,0,none⟩=some (.string ⟨#[]⟩):=aA hres 0;have r1:wa.cell? ⟨w.heap.size+1,1,none⟩=some (.int .i64 0):=aA hres 1;have f0:wa.frozen? ⟨w.heap.size+1,0,none⟩=false:=aF hres 0;have f1:wa.frozen? ⟨w.heap.size+1,1,none⟩=false:=aF hres 1;rcases hq with⟨x,hx1,hkw,hbs,hkk,he8,hrd⟩ | ⟨hno,hrd,es,he8⟩
   ·subst hx1 hbs hkk he8;obtain⟨hW2,hSt⟩:=HR.out.wide2 hgx hrd.tab (s.named_r x).le rfl;have HW2:Hid (Rdr (Mw M w.heap.size wa.heap.size) wa (s.named x) tb mb ps):=hW2;have HSt:Hid (Stp M w (Mw M w.heap.size wa.heap.size) wa):=hSt;have HX:=HBx.out x rfl;have hil:=dE s.ns x;have HFc:Hid (Calls prog 67 #[.agg #[.pointer (some ⟨tb,0,none⟩)],.iface T2 x2] wa.drew fun e w'=>∃v ev,e=.returned (.tuple #[v,ev])/\Hid (FmQ (Mw M w.heap.size wa.heap.size) wa.drew (s.named x) tb mb ps (fmF (formOf n t2) ps.length) (tsz n t2) v ev w')) :=(HF2.out _ wa.drew (s.named x) tb mb ps (hSt.trans (Stp.of_below (Below.refl _ _).drew)) (hW2.below (Below.refl _ _).drew) (by have:=HX.2.1;simp only [Sg.named];omega)).mono (fun e w' h=>h.one);have HHx:Hid (s.ns.length+1+tsz n t2=s.ns.length+([.lit (.string x),t2].map (tsz n)).sum):=HX.2.2;have HKw:Hid (kwB x=false):=hkw;clear hbox hrd hW2 hSt HX hil hkw hgx HBx HR1 k0 q3 q2 s0 k1
    go_upto_region 40 with fail
    go_cut [8,9] (fun e8 v9 wy=>Hid (FmQ (Mw M w.heap.size wa.heap.size) wa.drew (s.named x) tb mb ps (fmF (formOf n t2) ps.length) (tsz n t2) v9 e8 wy))
    case first =>
     go_region_with (go_at_call 67;refine Calls.mono HFc.out ?_;rintro e w2 ⟨v,ev,rfl,HQ⟩)
     all_goals
      go_wp2_with fail
      go_meet
      exact HQ
    case rest =>
     obtain⟨hgy,t',hsg,hnl,hcase⟩:=hcut.out;have hmb:=HMb.out;have hb3k:b3<wa.heap.size:=aB hbk;have hsz:w.heap.size+1<wa.heap.size:=by omega
     have hby:=(hgy.block b3 hb3k (by simp;omega)).trans hbk;have hry:=(hgy.block (w.heap.size+1) hsz (by simp;omega)).trans hres;have z0:wc.cell? ⟨b3,0,none⟩=some (.string ⟨x.toArray⟩):=aA hby 0;have z1:wc.cell? ⟨b3,1,none⟩=some (.int .i64 ((s.ns.idxOf x:Nat):Int)):=aA hby 1;have y0:wc.cell? ⟨w.heap.size+1,0,none⟩=some (.string ⟨#[]⟩):=aA hry 0;have y1:wc.cell? ⟨w.heap.size+1,1,none⟩=some (.int .i64 0):=aA hry 1;have g0:wc.frozen? ⟨w.heap.size+1,0,none⟩=false:=aF hry 0;have g1:wc.frozen? ⟨w.heap.size+1,1,none⟩=false:=aF hry 1;have hm1:Mw M w.heap.size wa.heap.size (w.heap.size+1):=.inr ⟨by omega,hsz⟩;have HG:Hid (w.grownBy wc (some mb)):=aM HGx.out ⟨hgy.os,hgy.tape,hgy.output,hgy.size,hgy.block⟩
     have HT:Hid (SgR s t'/\t'.ns.length<=s.ns.length+([.lit (.string x),t2].map (tsz n)).sum):=⟨(s.named_r x).trans hsg,by
      have h1:=dE s.ns x;have h2:=HHx.out;simp only [Sg.named] at hnl
      omega⟩
     rcases hcase with⟨r,hr,he,hrd,hrep⟩ | ⟨hr,hpb,hrd,es,he⟩
     ·subst he;have HO2:Hid (o=some (x,r)):=show o=_ from by rw [HO.out,hr];simp [isName,HKw.out,Pl.strOf]
      have HK:Hid (t'.ns[s.ns.idxOf x]?=some x):=bS hsg.le.ns (d8 s.ns x);have HRd:Hid (∀u v,Rdr M ((wc.setCell ⟨w.heap.size+1,0,none⟩ u).setCell ⟨w.heap.size+1,1,none⟩ v) t' tb mb (ps++r.2)):=fun u v=>HR.out.narrow ((hrd.set hm1 (by omega) 0 u).set hm1 (by omega) 1 v);have HRp:Hid (∀u v,RFm M ((wc.setCell ⟨w.heap.size+1,0,none⟩ u).setCell ⟨w.heap.size+1,1,none⟩ v) t' u9 r.1):=fun u v=>(hrep.go ((Stp.set hm1 0 u).trans (Stp.set hm1 1 v)) (Sg.Le.refl _)).weaken (fun _ y=>.inl y);obtain⟨T9,x9,rfl⟩:=hrep.iface;clear hr hrd hrep hsg hnl hgy hcut hm1 hry hby hres hbk HC;go_wp2_with fail
      (try simp only [Exit.inBlock,Exit.then])
      refine bodyPost_ret (v:=.tuple #[.agg #[.string ⟨x.toArray⟩,.int .i64 ((s.ns.idxOf x:Nat):Int)],.iface T9 x9,.nilIface]) ?_ rfl ?_
      ·rw [bW rfl]
       go_simp
      ·exact⟨e9 (e9 HG.out (by omega) _ _) (by omega) _ _,t',HT.out.1,HT.out.2,.inl ⟨x,r,_,_,HO2.out,rfl,HK.out,HRd.out _ _,HRp.out _ _⟩⟩
     ·subst he;have HO2:Hid (o=none):=show o=_ from by rw [HO.out,hr];simp
      have HRd:Hid (∀u v,Rdr M ((wc.setCell ⟨w.heap.size+1,0,none⟩ u).setCell ⟨w.heap.size+1,1,none⟩ v) t' tb mb ps):=fun u v=>HR.out.narrow ((hrd.set hm1 (by omega) 0 u).set hm1 (by omega) 1 v);have HPb:Hid (t'.pb=s.pb):=hpb;clear hr hrd hsg hnl hgy hcut hm1 hry hby hres hbk HC hpb;unfold aY;go_wp2_with fail
      (try simp only [Exit.inBlock,Exit.then])
      refine bodyPost_ret (v:=.tuple #[.agg #[.string ⟨#[]⟩,.int .i64 0],.nilIface,aY es 5]) ?_ rfl ?_
      ·rw [bW rfl];unfold aY
       go_simp
      ·exact⟨e9 (e9 HG.out (by omega) _ _) (by omega) _ _,t',HT.out.1,HT.out.2,.inr ⟨HO2.out,HPb.out,HRd.out _ _,_,rfl⟩⟩
   ·subst he8;have HO2:Hid (o=none):=show o=_ from by rw [HO.out,hno];simp
    have hmb:=HMb.out;have hb3k:b3<wa.heap.size:=aB hbk;have HRd:Hid (∀u v,Rdr M ((wa.setCell ⟨w.heap.size+1,0,none⟩ u).setCell ⟨w.heap.size+1,1,none⟩ v) s tb mb ps):=fun u v=>HR.out.rebuild (e9 (e9 hgx (by omega) _ _) (by omega) _ _) (hrd.tab.keep (by rw [Below.heap_setCell _ _ _ _ (fun e=>by have:tb=w.heap.size+1:=(by simpa using e);have:=HR.out.tab.lt.1;omega),Below.heap_setCell _ _ _ _ (fun e=>by have:tb=w.heap.size+1:=(by simpa using e);have:=HR.out.tab.lt.1;omega)]) (by rw [Below.heap_setCell _ _ _ _ (fun e=>by have:mb=w.heap.size+1:=(by simpa using e);omega),Below.heap_setCell _ _ _ _ (fun e=>by have:mb=w.heap.size+1:=(by simpa using e);omega)])) (SgR.refl s) rfl;clear hrd hno hgx hbox hres hbk HC HBx HR1 k0 q3 q2 s0 k1 c1;unfold aY;go_wp2_with fail
    (try simp only [Exit.inBlock,Exit.then])
    refine bodyPost_ret (v:=.tuple #[.agg #[.string ⟨#[]⟩,.int .i64 0],.nilIface,aY es 5]) ?_ rfl ?_
    ·rw [bW rfl];unfold aY
     go_simp
    ·exact⟨e9 (e9 HGx.out (by omega) _ _) (by omega) _ _,s,SgR.refl _,Nat.le_add_right _ _,.inr ⟨HO2.out,rfl,HRd.out _ _,_,rfl⟩⟩
 ·have HE:Hid (o=none):=ho.trans (nfO_not h2);obtain⟨ao,cap,rfl,_⟩:=Sl.slOf hS;have hne:((vs.length:Int)!=2)=true:=by simp;omega
  clear hS hA hB hR h2 hvl ho hF hz;go_enter func111,ntmps111;go_wp2_with (go_at_call 149;refine(aS _ _).mono ?_;rintro e w' ⟨rfl,rfl⟩)
  (try simp only [Exit.inBlock,Exit.then])
  refine bodyPost_ret (v:=.tuple #[.agg #[.string ⟨#[]⟩,.int .i64 0],.nilIface,aY ⟨#[114,101,97,100,105,110,103,32,97,32,110,97,109,101,32,97,110,100,32,97,32,102,111,114,109]⟩ 5]) ?_ rfl ?_
  ·rw [bW rfl]
   go_simp
  ·exact⟨aI (bA w _ _),s,SgR.refl _,Nat.le_add_right _ _,.inr ⟨HE.out,rfl,HR.out.below (bA w _ _),_,rfl⟩⟩
theorem asg_nf(k:FK)(hk:k≠.const)(n b:Nat)(ts:List Tr):fmF (Pl.asgF k (formOf n) ts) b=(nfO n b ts).map fun p=>(mkF k p.1 .nil [p.2.1] [],p.2.2):=by
 match ts with
 | []=>rfl
 | [_]=>rfl
 | [a,e] =>
  simp only [Pl.asgF,nfO]
  cases isName a with
  | false=>rfl
  | true =>
   cases formOf n e with
   | none=>rfl
   | some f=>simp [fmF,mkF,Pl.settle_other _ _ _ _ _ _ _ hk,Pl.settleL_cons,Pl.settleL_nil]
 | _::_::_::_=>rfl
theorem rfm_set{t:Sg}{k:Nat}{v:Value}{x:Byt}{f:PF}(h:t.ns[k]?=some x)(h1:RFm M w t v f):RFm M w t (.iface 340 (.agg #[.string ⟨x.toArray⟩,.int .i64 (k:Int),v])) (mkF .set x .nil [f] []):=.set k v f x .nil .nothing [] h h1
theorem rP{t:Sg}{k:Nat}{v:Value}{x:Byt}{f:PF}(h:t.ns[k]?=some x)(h1:RFm M w t v f):RFm M w t (.iface 218 (.agg #[.string ⟨x.toArray⟩,.int .i64 (k:Int),v])) (mkF .define x .nil [f] []):=.define k v f x .nil .nothing [] h h1
theorem p_set(n:Nat)(hF:FSaid n)(M:Nat->Prop)(w:World)(s:Sg)(tb mb:Nat)(ps:List (PV×PV))(sl:Value)(vs:List Value)(ts:List Tr)(hR:Rdr M w s tb mb ps)(hS:DRow M w sl vs)(hA:AllD M n w vs ts)(hB:∀x∈ts,cL n x)(hz:s.ns.length+(ts.map (tsz n)).sum<=NsMax)(o:FR)(ho:o=fmF (Pl.asgF .set (formOf n) ts) ps.length) :Calls prog 153 #[rdV tb,sl] w fun e w'=>FmPost M w s tb mb ps o (ts.map (tsz n)).sum e w':=by
 have HB1:=bB w (rdO tb);have HC:Hid (Calls prog 111 #[rdV tb,sl] (w.alloc (rdO tb)) fun e w'=>NFPost M (w.alloc (rdO tb)) s tb mb ps (nfO n ps.length ts) (ts.map (tsz n)).sum e w') :=fY n hF M _ s tb mb ps sl vs ts (hR.below HB1) (Sl.stp (Stp.of_below HB1) hS) (hA.mono (fun _ _ h=>h.go (Stp.of_below HB1))) hB hz _ rfl;obtain⟨ao,cap,rfl,_⟩:=Sl.slOf hS;unfold rdV at HC ⊢;have HO:Hid (o=(nfO n ps.length ts).map fun p=>(mkF .set p.1 .nil [p.2.1] [],p.2.2)):=ho.trans (asg_nf .set (by decide) n ps.length ts);have HG1:Hid (Below w.heap.size w (w.alloc (rdO tb))):=HB1;clear hS hR HB1 hF ho hA hB hz;go_enter func153,ntmps153;go_wp2_with fail;refine Calls.mono HC.out ?_;rintro e w2 ⟨hg,t,hsg,hnl,⟨x,r,k,v,hr,rfl,hk,hrd,hrep⟩ | ⟨hr,hpb,hrd,es,rfl⟩⟩
 ·have HT:Hid (SgR s t/\t.ns.length<=s.ns.length+(ts.map (tsz n)).sum):=⟨hsg,hnl⟩
  have HG:Hid (w.grownBy w2 (some mb)):=aM (aI HG1.out) hg;have HX:Hid (∀o2,Rdr M (w2.alloc o2) t tb mb (ps++r.2)/\RFm M (w2.alloc o2) t (.iface 340 (.agg #[.string ⟨x.toArray⟩,.int .i64 (k:Int),v])) (mkF .set x .nil [r.1] [])):=fun o2=>⟨hrd.below (bB w2 o2),(rfm_set hk hrep).go (Stp.of_below (bB w2 o2)) (Sg.Le.refl _)⟩
  have HO2:Hid (o=some (mkF .set x .nil [r.1] [],r.2)):=show _=_ from by rw [HO.out,hr];rfl
  obtain⟨T9,x9,rfl⟩:=hrep.iface;clear hg hsg hnl hr hrd hrep hk;go_wp2_with fail;go_ret2;exact⟨aM HG.out (aI (bB w2 _)),t,HT.out.1,HT.out.2,.inl ⟨_,_,HO2.out,rfl,(HX.out _).1,(HX.out _).2⟩⟩
 ·have HT:Hid (SgR s t/\t.ns.length<=s.ns.length+(ts.map (tsz n)).sum):=⟨hsg,hnl⟩
  have HG:Hid (w.grownBy w2 (some mb)):=aM (aI HG1.out) hg;have HT2:Hid (∀o2,Rdr M (w2.alloc o2) t tb mb ps):=fun o2=>hrd.below (bB w2 o2);have HPb:Hid (t.pb=s.pb):=hpb;have HE2:Hid (o=none):=show _=_ from by rw [HO.out,hr];rfl
  clear hg hsg hnl hr hrd hpb;unfold aY;go_wp2_with fail;go_ret2;exact⟨aM HG.out (aI (bB w2 _)),t,HT.out.1,HT.out.2,.inr ⟨HE2.out,HPb.out,HT2.out _,_,_,rfl⟩⟩
theorem yW(n:Nat)(hF:FSaid n)(M:Nat->Prop)(w:World)(s:Sg)(tb mb:Nat)(ps:List (PV×PV))(sl:Value)(vs:List Value)(ts:List Tr)(hR:Rdr M w s tb mb ps)(hS:DRow M w sl vs)(hA:AllD M n w vs ts)(hB:∀x∈ts,cL n x)(hz:s.ns.length+(ts.map (tsz n)).sum<=NsMax)(o:FR)(ho:o=fmF (Pl.asgF .define (formOf n) ts) ps.length) :Calls prog 66 #[rdV tb,sl] w fun e w'=>FmPost M w s tb mb ps o (ts.map (tsz n)).sum e w':=by
 have HB1:=bB w (rdO tb);have HC:Hid (Calls prog 111 #[rdV tb,sl] (w.alloc (rdO tb)) fun e w'=>NFPost M (w.alloc (rdO tb)) s tb mb ps (nfO n ps.length ts) (ts.map (tsz n)).sum e w') :=fY n hF M _ s tb mb ps sl vs ts (hR.below HB1) (Sl.stp (Stp.of_below HB1) hS) (hA.mono (fun _ _ h=>h.go (Stp.of_below HB1))) hB hz _ rfl;obtain⟨ao,cap,rfl,_⟩:=Sl.slOf hS;unfold rdV at HC ⊢;have HO:Hid (o=(nfO n ps.length ts).map fun p=>(mkF .define p.1 .nil [p.2.1] [],p.2.2)):=ho.trans (asg_nf .define (by decide) n ps.length ts);have HG1:Hid (Below w.heap.size w (w.alloc (rdO tb))):=HB1;clear hS hR HB1 hF ho hA hB hz;go_enter func66,ntmps66;go_wp2_with fail;refine Calls.mono HC.out ?_;rintro e w2 ⟨hg,t,hsg,hnl,⟨x,r,k,v,hr,rfl,hk,hrd,hrep⟩ | ⟨hr,hpb,hrd,es,rfl⟩⟩
 ·have HT:Hid (SgR s t/\t.ns.length<=s.ns.length+(ts.map (tsz n)).sum):=⟨hsg,hnl⟩
  have HG:Hid (w.grownBy w2 (some mb)):=aM (aI HG1.out) hg;have HX:Hid (∀o2,Rdr M (w2.alloc o2) t tb mb (ps++r.2)/\RFm M (w2.alloc o2) t (.iface 218 (.agg #[.string ⟨x.toArray⟩,.int .i64 (k:Int),v])) (mkF .define x .nil [r.1] [])):=fun o2=>⟨hrd.below (bB w2 o2),(rP hk hrep).go (Stp.of_below (bB w2 o2)) (Sg.Le.refl _)⟩
  have HO2:Hid (o=some (mkF .define x .nil [r.1] [],r.2)):=show _=_ from by rw [HO.out,hr];rfl
  obtain⟨T9,x9,rfl⟩:=hrep.iface;clear hg hsg hnl hr hrd hrep hk;go_wp2_with fail;go_ret2;exact⟨aM HG.out (aI (bB w2 _)),t,HT.out.1,HT.out.2,.inl ⟨_,_,HO2.out,rfl,(HX.out _).1,(HX.out _).2⟩⟩
 ·have HT:Hid (SgR s t/\t.ns.length<=s.ns.length+(ts.map (tsz n)).sum):=⟨hsg,hnl⟩
  have HG:Hid (w.grownBy w2 (some mb)):=aM (aI HG1.out) hg;have HT2:Hid (∀o2,Rdr M (w2.alloc o2) t tb mb ps):=fun o2=>hrd.below (bB w2 o2);have HPb:Hid (t.pb=s.pb):=hpb;have HE2:Hid (o=none):=show _=_ from by rw [HO.out,hr];rfl
  clear hg hsg hnl hr hrd hpb;unfold aY;go_wp2_with fail;go_ret2;exact⟨aM HG.out (aI (bB w2 _)),t,HT.out.1,HT.out.2,.inr ⟨HE2.out,HPb.out,HT2.out _,_,_,rfl⟩⟩
end
end Go.Proofs.YtkgbdddkcjpgfaaGreatDoor
