import Derived.Deep.RegionWith
import Derived.Test.YtkgbdddkcjpgfaaGreatDoorS30
import Derived.Deep.RegionHeld3
namespace Go.Proofs.YtkgbdddkcjpgfaaGreatDoor
set_option maxHeartbeats 4000000
set_option maxRecDepth 100000
open Go.Proofs.Tryz
open Pl (PF formOf mkF kwB isName)
section
open Go.RowKit
theorem lC(n:Nat)(hn:n+1<=1000)(hF:FoSaid n)(ok:Nat->Prop)(w:World)(v:Value)(r:List Tr)(h:RepR ok (n+1) w v (.agg (.lit (.string [113,117,111,116,101])::r)))(hbg:Hid (cL (n+1) (.agg (.lit (.string [113,117,111,116,101])::r))))(hLT:∀x∈r,dF n x) :Calls prog 122 #[v] w fun e w'=>FoPost w (formOf (n+1) (.agg (.lit (.string [113,117,111,116,101])::r))) e w':=by
 have HK:Hid (formOf (n+1) (.agg (.lit (.string [113,117,111,116,101])::r))=if r.length==1 then some (mkF .const [] (.agg (.lit (.string [113,117,111,116,101])::r)) [] []) else none):=d9 n _ r (by decide);have HR:Hid (RepR ok (n+1) w v (.agg ((.lit (.string [113,117,111,116,101]))::r))):=h;have HF:Hid (FoSaid n):=hF;have hlen:((.lit (.string [113,117,111,116,101]))::r).length<=1000:=h.short;simp only [List.length_cons] at hlen;obtain⟨b,g,off,cap,u0,us,rfl,hb,ck,c3,hcap,hg,c0,hS,hlr,r0,hA,hA1⟩:=h.cons;have HS:Hid (SlOf w (.slice (some ⟨g,off,none⟩) (r.length+1) cap) (u0::us)):=hS;have HA:Hid (AllR n w (u0::us) ((.lit (.string [113,117,111,116,101]))::r)):=hA;have HA1:Hid (AllR n w us r):=hA1;have HL:Hid (us.length=r.length):=hlr;obtain⟨b0,rfl,hb0,ck0,cs0⟩:=r0.cellS;have R0:Hid (RepR ok n w _ (.lit (.string [113,117,111,116,101]))):=r0;have HLT:Hid (∀x∈r,dF n x):=hLT;clear h hF hLT hS hA hA1 hlr r0;have ck1:w.cell? ⟨b0,0,none⟩=some (.string ⟨#[110,97,109,101]⟩):=ck0;have cs1:w.cell? ⟨b0,2,none⟩=some (.string ⟨([113,117,111,116,101]).toArray⟩):=cs0;clear ck0 cs0;by_cases hl:r.length=1
 ·have hl2:((r.length:Int)+1==2)=true:=by simp;omega
  have HE:Hid (formOf (n+1) (.agg (.lit (.string [113,117,111,116,101])::r))=some (mkF .const [] (.agg (.lit (.string [113,117,111,116,101])::r)) [] [])):=HK.out.trans (if_pos (by simpa using hl));have HQo:Hid (uG (.agg (.lit (.string [113,117,111,116,101])::r))):=by show List.length (_::r)=2;simp [hl]
  clear hl;have e1:isName (.agg ((.lit (.string [113,117,111,116,101]))::r))=false:=rfl;have hn0:((r.length:Int)+1==0)=false:=by simp;omega
  go_enter func122,ntmps122
  go_wp2_with fail
  refine(aV ok (n+1) _ _ _ HR.out).mono ?_;rintro e w1 ⟨rfl,hB1⟩;obtain⟨q1,_⟩:=bP hB1;have HB1:Hid (Below w.heap.size w w1):=hB1;have hsz:=hB1.size;clear hB1;go_wp2_with fail;refine(aR [113,117,111,116,101] _).mono ?_;rintro e w2 ⟨rfl,hB2⟩;have HB2:Hid (Below w.heap.size w w2):=HB1.out.trans (hB2.mono hsz);obtain⟨q2,_⟩:=bP HB2.out;have hsz2:=HB2.out.size;rw [show kwB [113,117,111,116,101]=true from by first | assumption | decide];clear hB2 q1 HB1 hsz;go_wp2_with fail;go_ret;exact⟨HB2.out.alloc hsz2 _,.inl ⟨_,_,HE.out,rfl,1,iZ hn HR.out hbg.out HQo.out HB2.out hsz2 rfl rfl⟩⟩
 ·have hl2:((r.length:Int)+1==2)=false:=by simp;omega
  have HE:Hid (formOf (n+1) (.agg (.lit (.string [113,117,111,116,101])::r))=none):=HK.out.trans (if_neg (by simpa using hl));clear hl;have e1:isName (.agg ((.lit (.string [113,117,111,116,101]))::r))=false:=rfl;have hn0:((r.length:Int)+1==0)=false:=by simp;omega
  go_enter func122,ntmps122
  go_wp2_with fail
  refine(aV ok (n+1) _ _ _ HR.out).mono ?_;rintro e w1 ⟨rfl,hB1⟩;obtain⟨q1,_⟩:=bP hB1;have HB1:Hid (Below w.heap.size w w1):=hB1;have hsz:=hB1.size;clear hB1;go_wp2_with fail;refine(aR [113,117,111,116,101] _).mono ?_;rintro e w2 ⟨rfl,hB2⟩;have HB2:Hid (Below w.heap.size w w2):=HB1.out.trans (hB2.mono hsz);obtain⟨q2,_⟩:=bP HB2.out;have hsz2:=HB2.out.size;rw [show kwB [113,117,111,116,101]=true from by first | assumption | decide];clear hB2 q1 HB1 hsz;go_wp2_with fail;go_ret;exact⟨HB2.out,.inr ⟨HE.out,rfl⟩⟩
theorem kD(n:Nat)(hF:FoSaid n)(ok:Nat->Prop)(w:World)(v:Value)(r:List Tr)(h:RepR ok (n+1) w v (.agg (.lit (.string [100,101,102,105,110,101])::r)))(hLT:∀x∈r,dF n x) :Calls prog 122 #[v] w fun e w'=>FoPost w (formOf (n+1) (.agg (.lit (.string [100,101,102,105,110,101])::r))) e w':=by
 have HE:Hid (formOf (n+1) (.agg (.lit (.string [100,101,102,105,110,101])::r))=none):=(d9 n _ r (by decide)).trans rfl;have HR:Hid (RepR ok (n+1) w v (.agg ((.lit (.string [100,101,102,105,110,101]))::r))):=h;have HF:Hid (FoSaid n):=hF;have hlen:((.lit (.string [100,101,102,105,110,101]))::r).length<=1000:=h.short;simp only [List.length_cons] at hlen;obtain⟨b,g,off,cap,u0,us,rfl,hb,ck,c3,hcap,hg,c0,hS,hlr,r0,hA,hA1⟩:=h.cons;have HS:Hid (SlOf w (.slice (some ⟨g,off,none⟩) (r.length+1) cap) (u0::us)):=hS;have HA:Hid (AllR n w (u0::us) ((.lit (.string [100,101,102,105,110,101]))::r)):=hA;have HA1:Hid (AllR n w us r):=hA1;have HL:Hid (us.length=r.length):=hlr;obtain⟨b0,rfl,hb0,ck0,cs0⟩:=r0.cellS;have R0:Hid (RepR ok n w _ (.lit (.string [100,101,102,105,110,101]))):=r0;have HLT:Hid (∀x∈r,dF n x):=hLT;clear h hF hLT hS hA hA1 hlr r0;have ck1:w.cell? ⟨b0,0,none⟩=some (.string ⟨#[110,97,109,101]⟩):=ck0;have cs1:w.cell? ⟨b0,2,none⟩=some (.string ⟨([100,101,102,105,110,101]).toArray⟩):=cs0;clear ck0 cs0;have e1:isName (.agg ((.lit (.string [100,101,102,105,110,101]))::r))=false:=rfl;have hn0:((r.length:Int)+1==0)=false:=by simp;omega
 go_enter func122,ntmps122
 go_wp2_with fail
 refine(aV ok (n+1) _ _ _ HR.out).mono ?_;rintro e w1 ⟨rfl,hB1⟩;obtain⟨q1,_⟩:=bP hB1;have HB1:Hid (Below w.heap.size w w1):=hB1;have hsz:=hB1.size;clear hB1;go_wp2_with fail;refine(aR [100,101,102,105,110,101] _).mono ?_;rintro e w2 ⟨rfl,hB2⟩;have HB2:Hid (Below w.heap.size w w2):=HB1.out.trans (hB2.mono hsz);obtain⟨q2,_⟩:=bP HB2.out;have hsz2:=HB2.out.size;rw [show kwB [100,101,102,105,110,101]=true from by first | assumption | decide];clear hB2 q1 HB1 hsz;go_wp2_with fail;go_ret;exact⟨HB2.out,.inr ⟨HE.out,rfl⟩⟩
theorem oN(n:Nat)(hF:FoSaid n)(ok:Nat->Prop)(w:World)(v:Value)(r:List Tr)(h:RepR ok (n+1) w v (.agg (.lit (.string [115,101,116,33])::r)))(hLT:∀x∈r,dF n x) :Calls prog 122 #[v] w fun e w'=>FoPost w (formOf (n+1) (.agg (.lit (.string [115,101,116,33])::r))) e w':=by
 have HK:Hid (formOf (n+1) (.agg (.lit (.string [115,101,116,33])::r))=Pl.asgF .set (formOf n) r):=(d9 n _ r (by decide)).trans rfl;have HR:Hid (RepR ok (n+1) w v (.agg ((.lit (.string [115,101,116,33]))::r))):=h;have HF:Hid (FoSaid n):=hF;have hlen:((.lit (.string [115,101,116,33]))::r).length<=1000:=h.short;simp only [List.length_cons] at hlen;obtain⟨b,g,off,cap,u0,us,rfl,hb,ck,c3,hcap,hg,c0,hS,hlr,r0,hA,hA1⟩:=h.cons;have HS:Hid (SlOf w (.slice (some ⟨g,off,none⟩) (r.length+1) cap) (u0::us)):=hS;have HA:Hid (AllR n w (u0::us) ((.lit (.string [115,101,116,33]))::r)):=hA;have HA1:Hid (AllR n w us r):=hA1;have HL:Hid (us.length=r.length):=hlr;obtain⟨b0,rfl,hb0,ck0,cs0⟩:=r0.cellS;have R0:Hid (RepR ok n w _ (.lit (.string [115,101,116,33]))):=r0;have HLT:Hid (∀x∈r,dF n x):=hLT;clear h hF hLT hS hA hA1 hlr r0;have ck1:w.cell? ⟨b0,0,none⟩=some (.string ⟨#[110,97,109,101]⟩):=ck0;have cs1:w.cell? ⟨b0,2,none⟩=some (.string ⟨([115,101,116,33]).toArray⟩):=cs0;clear ck0 cs0;have e1:isName (.agg ((.lit (.string [115,101,116,33]))::r))=false:=rfl;have hn0:((r.length:Int)+1==0)=false:=by simp;omega
 go_enter func122,ntmps122
 go_wp2_with fail
 refine(aV ok (n+1) _ _ _ HR.out).mono ?_;rintro e w1 ⟨rfl,hB1⟩;obtain⟨q1,_⟩:=bP hB1;have HB1:Hid (Below w.heap.size w w1):=hB1;have hsz:=hB1.size;clear hB1;go_wp2_with fail;refine(aR [115,101,116,33] _).mono ?_;rintro e w2 ⟨rfl,hB2⟩;have HB2:Hid (Below w.heap.size w w2):=HB1.out.trans (hB2.mono hsz);obtain⟨q2,_⟩:=bP HB2.out;have hsz2:=HB2.out.size;rw [show kwB [115,101,116,33]=true from by first | assumption | decide];clear hB2 q1 HB1 hsz;go_wp2_with fail;refine(iY n HF.out .set (.inl rfl) ok _ _ r (HR.out.later HB2.out) HLT.out).mono ?_;rintro e w5 ⟨hB5,⟨f,bf,hf,rfl,m5,hrep⟩ | ⟨hf,rfl⟩⟩
 ·have HB5:Hid (Below w.heap.size w w5):=HB2.out.trans (hB5.mono hsz2);have HE:Hid _:=HK.out.trans hf;have HRp:Hid (RepU false m5 w5 w.heap.size w5.heap.size (.pointer (some ⟨bf,0,none⟩)) f):=hrep.wide hsz2 (Nat.le_refl _);clear hB5 hf hrep;go_wp2_with fail;go_ret;exact⟨HB5.out,.inl ⟨_,_,HE.out,rfl,m5,HRp.out⟩⟩
 ·have HB5:Hid (Below w.heap.size w w5):=HB2.out.trans (hB5.mono hsz2);have HE:Hid _:=HK.out.trans hf;clear hB5 hf;go_wp2_with fail;go_ret;exact⟨HB5.out,.inr ⟨HE.out,rfl⟩⟩
theorem rQ(n:Nat)(hF:FoSaid n)(ok:Nat->Prop)(w:World)(v:Value)(r:List Tr)(h:RepR ok (n+1) w v (.agg (.lit (.string [105,102])::r)))(hLT:∀x∈r,dF n x) :Calls prog 122 #[v] w fun e w'=>FoPost w (formOf (n+1) (.agg (.lit (.string [105,102])::r))) e w':=by
 have HK:Hid (formOf (n+1) (.agg (.lit (.string [105,102])::r))=if(r.length==3) then(Pl.allF (formOf n) r).map fun l=>mkF .iff [] .nil l [] else none):=(d9 n _ r (by decide)).trans rfl;have HR:Hid (RepR ok (n+1) w v (.agg ((.lit (.string [105,102]))::r))):=h;have HF:Hid (FoSaid n):=hF;have hlen:((.lit (.string [105,102]))::r).length<=1000:=h.short;simp only [List.length_cons] at hlen;obtain⟨b,g,off,cap,u0,us,rfl,hb,ck,c3,hcap,hg,c0,hS,hlr,r0,hA,hA1⟩:=h.cons;have HS:Hid (SlOf w (.slice (some ⟨g,off,none⟩) (r.length+1) cap) (u0::us)):=hS;have HA:Hid (AllR n w (u0::us) ((.lit (.string [105,102]))::r)):=hA;have HA1:Hid (AllR n w us r):=hA1;have HL:Hid (us.length=r.length):=hlr;obtain⟨b0,rfl,hb0,ck0,cs0⟩:=r0.cellS;have R0:Hid (RepR ok n w _ (.lit (.string [105,102]))):=r0;have HLT:Hid (∀x∈r,dF n x):=hLT;clear h hF hLT hS hA hA1 hlr r0;have ck1:w.cell? ⟨b0,0,none⟩=some (.string ⟨#[110,97,109,101]⟩):=ck0;have cs1:w.cell? ⟨b0,2,none⟩=some (.string ⟨([105,102]).toArray⟩):=cs0;clear ck0 cs0;by_cases hlb:(r.length==3)=true
 ·have hl2:((r.length:Int)+1==4)=true:=by simp at hlb;simp;omega
  have e1:isName (.agg ((.lit (.string [105,102]))::r))=false:=rfl;have hn0:((r.length:Int)+1==0)=false:=by simp;omega
  go_enter func122,ntmps122
  go_wp2_with fail
  refine(aV ok (n+1) _ _ _ HR.out).mono ?_;rintro e w1 ⟨rfl,hB1⟩;obtain⟨q1,_⟩:=bP hB1;have HB1:Hid (Below w.heap.size w w1):=hB1;have hsz:=hB1.size;clear hB1;go_wp2_with fail;refine(aR [105,102] _).mono ?_;rintro e w2 ⟨rfl,hB2⟩;have HB2:Hid (Below w.heap.size w w2):=HB1.out.trans (hB2.mono hsz);obtain⟨q2,_⟩:=bP HB2.out;have hsz2:=HB2.out.size;rw [show kwB [105,102]=true from by first | assumption | decide];clear hB2 q1 HB1 hsz;go_wp2_with fail
  ·refine(cI n HF.out _ _ us r ((HS.out.tail r.length HL.out _ _ (by omega) (by intro hh;first | rfl | (exfalso;omega))).later HB2.out) (HA1.out.later HB2.out) (by omega) HLT.out).mono ?_;rintro e w5 ⟨hB5,hcase⟩;have HB5:Hid (Below w.heap.size w w5):=HB2.out.trans (hB5.mono hsz2);have hsz5:=HB5.out.size;rcases hcase with⟨gs,rv,fs,hfs,rfl,hrow,_,_,mr,hkids⟩ | ⟨hfs,rv,rfl⟩
   ·have HE:Hid (formOf (n+1) (.agg (.lit (.string [105,102])::r))=some (mkF .iff [] .nil gs [])):=HK.out.trans (by rw [hfs,if_pos (by assumption)];rfl);have hfl:fs.length=r.length:=by have:=hrow.1;omega
    have HU:=(show Hid (∀o2,o2=Obj.cells #[byV (fkS .iff),byV [],.pointer none,rv,.slice none 0 0,byV [],.int .i64 0,byV []] TFo (0,0)->RepU false (mr+1) (w5.alloc o2) w.heap.size (w5.alloc o2).heap.size (.pointer (some ⟨w5.heap.size,0,none⟩)) (mkF .iff [] .nil gs [])) from fun o2 ho=>fS hsz2 hB5.size hrow hkids (by simp) (by show _=3;have:=hkids.1;have:=hrow.1;simp at hlb;omega) (by have:=hkids.1;have:=hrow.1;omega) ho)
    obtain⟨aor,capr,rfl,_⟩:=bC hrow;clear hB5 hfs hrow hlb hkids;go_wp2_with fail;go_ret;exact⟨HB5.out.alloc hsz5 _,.inl ⟨_,_,HE.out,rfl,mr+1,HU.out _ (by rw [hfl];rfl)⟩⟩
   ·have HE:Hid (formOf (n+1) (.agg (.lit (.string [105,102])::r))=none):=HK.out.trans (by rw [hfs];simp);clear hB5 hfs hlb;go_wp2_with fail;go_ret;exact⟨HB5.out,.inr ⟨HE.out,rfl⟩⟩
  ·refine(cI n HF.out _ _ us r ((HS.out.tail r.length HL.out _ _ (by omega) (by intro hh;first | rfl | (exfalso;omega))).later HB2.out) (HA1.out.later HB2.out) (by omega) HLT.out).mono ?_;rintro e w5 ⟨hB5,hcase⟩;have HB5:Hid (Below w.heap.size w w5):=HB2.out.trans (hB5.mono hsz2);have hsz5:=HB5.out.size;rcases hcase with⟨gs,rv,fs,hfs,rfl,hrow,_,_,mr,hkids⟩ | ⟨hfs,rv,rfl⟩
   ·have HE:Hid (formOf (n+1) (.agg (.lit (.string [105,102])::r))=some (mkF .iff [] .nil gs [])):=HK.out.trans (by rw [hfs,if_pos (by assumption)];rfl);have hfl:fs.length=r.length:=by have:=hrow.1;omega
    have HU:=(show Hid (∀o2,o2=Obj.cells #[byV (fkS .iff),byV [],.pointer none,rv,.slice none 0 0,byV [],.int .i64 0,byV []] TFo (0,0)->RepU false (mr+1) (w5.alloc o2) w.heap.size (w5.alloc o2).heap.size (.pointer (some ⟨w5.heap.size,0,none⟩)) (mkF .iff [] .nil gs [])) from fun o2 ho=>fS hsz2 hB5.size hrow hkids (by simp) (by show _=3;have:=hkids.1;have:=hrow.1;simp at hlb;omega) (by have:=hkids.1;have:=hrow.1;omega) ho)
    obtain⟨aor,capr,rfl,_⟩:=bC hrow;clear hB5 hfs hrow hlb hkids;go_wp2_with fail;go_ret;exact⟨HB5.out.alloc hsz5 _,.inl ⟨_,_,HE.out,rfl,mr+1,HU.out _ (by rw [hfl];rfl)⟩⟩
   ·have HE:Hid (formOf (n+1) (.agg (.lit (.string [105,102])::r))=none):=HK.out.trans (by rw [hfs];simp);clear hB5 hfs hlb;go_wp2_with fail;go_ret;exact⟨HB5.out,.inr ⟨HE.out,rfl⟩⟩
 ·have hlb:(r.length==3)=false:=by simpa using hlb
  have hl2:((r.length:Int)+1==4)=false:=by simp at hlb;simp;omega
  have e1:isName (.agg ((.lit (.string [105,102]))::r))=false:=rfl;have hn0:((r.length:Int)+1==0)=false:=by simp;omega
  go_enter func122,ntmps122
  go_wp2_with fail
  refine(aV ok (n+1) _ _ _ HR.out).mono ?_;rintro e w1 ⟨rfl,hB1⟩;obtain⟨q1,_⟩:=bP hB1;have HB1:Hid (Below w.heap.size w w1):=hB1;have hsz:=hB1.size;clear hB1;go_wp2_with fail;refine(aR [105,102] _).mono ?_;rintro e w2 ⟨rfl,hB2⟩;have HB2:Hid (Below w.heap.size w w2):=HB1.out.trans (hB2.mono hsz);obtain⟨q2,_⟩:=bP HB2.out;have hsz2:=HB2.out.size;rw [show kwB [105,102]=true from by first | assumption | decide];clear hB2 q1 HB1 hsz;go_wp2_with fail
  ·refine(cI n HF.out _ _ us r ((HS.out.tail r.length HL.out _ _ (by omega) (by intro hh;first | rfl | (exfalso;omega))).later HB2.out) (HA1.out.later HB2.out) (by omega) HLT.out).mono ?_;rintro e w5 ⟨hB5,hcase⟩;have HB5:Hid (Below w.heap.size w w5):=HB2.out.trans (hB5.mono hsz2);have hsz5:=HB5.out.size;rcases hcase with⟨gs,rv,fs,hfs,rfl,hrow,_,_,mr,hkids⟩ | ⟨hfs,rv,rfl⟩
   ·have HE:Hid (formOf (n+1) (.agg (.lit (.string [105,102])::r))=none):=HK.out.trans (by rw [if_neg (by simp [hlb])]);obtain⟨aor,capr,rfl,_⟩:=bC hrow;clear hB5 hfs hrow hlb hkids;go_wp2_with fail;go_ret;exact⟨HB5.out,.inr ⟨HE.out,rfl⟩⟩
   ·have HE:Hid (formOf (n+1) (.agg (.lit (.string [105,102])::r))=none):=HK.out.trans (by rw [hfs];simp);clear hB5 hfs hlb;go_wp2_with fail;go_ret;exact⟨HB5.out,.inr ⟨HE.out,rfl⟩⟩
  ·refine(cI n HF.out _ _ us r ((HS.out.tail r.length HL.out _ _ (by omega) (by intro hh;first | rfl | (exfalso;omega))).later HB2.out) (HA1.out.later HB2.out) (by omega) HLT.out).mono ?_;rintro e w5 ⟨hB5,hcase⟩;have HB5:Hid (Below w.heap.size w w5):=HB2.out.trans (hB5.mono hsz2);have hsz5:=HB5.out.size;rcases hcase with⟨gs,rv,fs,hfs,rfl,hrow,_,_,mr,hkids⟩ | ⟨hfs,rv,rfl⟩
   ·have HE:Hid (formOf (n+1) (.agg (.lit (.string [105,102])::r))=none):=HK.out.trans (by rw [if_neg (by simp [hlb])]);obtain⟨aor,capr,rfl,_⟩:=bC hrow;clear hB5 hfs hrow hlb hkids;go_wp2_with fail;go_ret;exact⟨HB5.out,.inr ⟨HE.out,rfl⟩⟩
   ·have HE:Hid (formOf (n+1) (.agg (.lit (.string [105,102])::r))=none):=HK.out.trans (by rw [hfs];simp);clear hB5 hfs hlb;go_wp2_with fail;go_ret;exact⟨HB5.out,.inr ⟨HE.out,rfl⟩⟩
theorem lD(n:Nat)(hF:FoSaid n)(ok:Nat->Prop)(w:World)(v:Value)(r:List Tr)(h:RepR ok (n+1) w v (.agg (.lit (.string [98,101,103,105,110])::r)))(hLT:∀x∈r,dF n x) :Calls prog 122 #[v] w fun e w'=>FoPost w (formOf (n+1) (.agg (.lit (.string [98,101,103,105,110])::r))) e w':=by
 have HK:Hid (formOf (n+1) (.agg (.lit (.string [98,101,103,105,110])::r))=if(!r.isEmpty) then(Pl.allF (formOf n) r).map fun l=>mkF .begin [] .nil l [] else none):=(d9 n _ r (by decide)).trans rfl;have HR:Hid (RepR ok (n+1) w v (.agg ((.lit (.string [98,101,103,105,110]))::r))):=h;have HF:Hid (FoSaid n):=hF;have hlen:((.lit (.string [98,101,103,105,110]))::r).length<=1000:=h.short;simp only [List.length_cons] at hlen;obtain⟨b,g,off,cap,u0,us,rfl,hb,ck,c3,hcap,hg,c0,hS,hlr,r0,hA,hA1⟩:=h.cons;have HS:Hid (SlOf w (.slice (some ⟨g,off,none⟩) (r.length+1) cap) (u0::us)):=hS;have HA:Hid (AllR n w (u0::us) ((.lit (.string [98,101,103,105,110]))::r)):=hA;have HA1:Hid (AllR n w us r):=hA1;have HL:Hid (us.length=r.length):=hlr;obtain⟨b0,rfl,hb0,ck0,cs0⟩:=r0.cellS;have R0:Hid (RepR ok n w _ (.lit (.string [98,101,103,105,110]))):=r0;have HLT:Hid (∀x∈r,dF n x):=hLT;clear h hF hLT hS hA hA1 hlr r0;have ck1:w.cell? ⟨b0,0,none⟩=some (.string ⟨#[110,97,109,101]⟩):=ck0;have cs1:w.cell? ⟨b0,2,none⟩=some (.string ⟨([98,101,103,105,110]).toArray⟩):=cs0;clear ck0 cs0;by_cases hlb:(!r.isEmpty)=true
 ·have hl2:(1:Int)<(r.length:Int)+1:=by cases r<;>simp at hlb⊢<;> omega
  have e1:isName (.agg ((.lit (.string [98,101,103,105,110]))::r))=false:=rfl;have hn0:((r.length:Int)+1==0)=false:=by simp;omega
  go_enter func122,ntmps122
  go_wp2_with fail
  refine(aV ok (n+1) _ _ _ HR.out).mono ?_;rintro e w1 ⟨rfl,hB1⟩;obtain⟨q1,_⟩:=bP hB1;have HB1:Hid (Below w.heap.size w w1):=hB1;have hsz:=hB1.size;clear hB1;go_wp2_with fail;refine(aR [98,101,103,105,110] _).mono ?_;rintro e w2 ⟨rfl,hB2⟩;have HB2:Hid (Below w.heap.size w w2):=HB1.out.trans (hB2.mono hsz);obtain⟨q2,_⟩:=bP HB2.out;have hsz2:=HB2.out.size;rw [show kwB [98,101,103,105,110]=true from by first | assumption | decide];clear hB2 q1 HB1 hsz;go_wp2_with fail;refine(cI n HF.out _ _ us r ((HS.out.tail r.length HL.out _ _ (by omega) (by intro hh;first | rfl | (exfalso;omega))).later HB2.out) (HA1.out.later HB2.out) (by omega) HLT.out).mono ?_;rintro e w5 ⟨hB5,hcase⟩;have HB5:Hid (Below w.heap.size w w5):=HB2.out.trans (hB5.mono hsz2);have hsz5:=HB5.out.size;rcases hcase with⟨gs,rv,fs,hfs,rfl,hrow,_,_,mr,hkids⟩ | ⟨hfs,rv,rfl⟩
  ·have HE:Hid (formOf (n+1) (.agg (.lit (.string [98,101,103,105,110])::r))=some (mkF .begin [] .nil gs [])):=HK.out.trans (by rw [hfs,if_pos (by assumption)];rfl);have hfl:fs.length=r.length:=by have:=hrow.1;omega
   have HU:=(show Hid (∀o2,o2=Obj.cells #[byV (fkS .begin),byV [],.pointer none,rv,.slice none 0 0,byV [],.int .i64 0,byV []] TFo (0,0)->RepU false (mr+1) (w5.alloc o2) w.heap.size (w5.alloc o2).heap.size (.pointer (some ⟨w5.heap.size,0,none⟩)) (mkF .begin [] .nil gs [])) from fun o2 ho=>fS hsz2 hB5.size hrow hkids (by simp) (by show 1<=_;have:=hkids.1;have:=hrow.1;have:r.length≠0:=(by intro h0;have:=List.eq_nil_of_length_eq_zero h0;subst this;simp at hlb);omega) (by have:=hkids.1;have:=hrow.1;omega) ho)
   obtain⟨aor,capr,rfl,_⟩:=bC hrow;clear hB5 hfs hrow hlb hkids;go_wp2_with fail;go_ret;exact⟨HB5.out.alloc hsz5 _,.inl ⟨_,_,HE.out,rfl,mr+1,HU.out _ (by rw [hfl];rfl)⟩⟩
  ·have HE:Hid (formOf (n+1) (.agg (.lit (.string [98,101,103,105,110])::r))=none):=HK.out.trans (by rw [hfs];simp);clear hB5 hfs hlb;go_wp2_with fail;go_ret;exact⟨HB5.out,.inr ⟨HE.out,rfl⟩⟩
 ·have hlb:(!r.isEmpty)=false:=by simpa using hlb
  have hl2:decide ((1:Int)<(r.length:Int)+1)=false:=by cases r<;>simp at hlb⊢<;> omega
  have e1:isName (.agg ((.lit (.string [98,101,103,105,110]))::r))=false:=rfl;have hn0:((r.length:Int)+1==0)=false:=by simp;omega
  go_enter func122,ntmps122
  go_wp2_with fail
  refine(aV ok (n+1) _ _ _ HR.out).mono ?_;rintro e w1 ⟨rfl,hB1⟩;obtain⟨q1,_⟩:=bP hB1;have HB1:Hid (Below w.heap.size w w1):=hB1;have hsz:=hB1.size;clear hB1;go_wp2_with fail;refine(aR [98,101,103,105,110] _).mono ?_;rintro e w2 ⟨rfl,hB2⟩;have HB2:Hid (Below w.heap.size w w2):=HB1.out.trans (hB2.mono hsz);obtain⟨q2,_⟩:=bP HB2.out;have hsz2:=HB2.out.size;rw [show kwB [98,101,103,105,110]=true from by first | assumption | decide];clear hB2 q1 HB1 hsz;go_wp2_with fail
  ·refine(cI n HF.out _ _ us r ((HS.out.tail r.length HL.out _ _ (by omega) (by intro hh;first | rfl | (exfalso;omega))).later HB2.out) (HA1.out.later HB2.out) (by omega) HLT.out).mono ?_;rintro e w5 ⟨hB5,hcase⟩;have HB5:Hid (Below w.heap.size w w5):=HB2.out.trans (hB5.mono hsz2);have hsz5:=HB5.out.size;rcases hcase with⟨gs,rv,fs,hfs,rfl,hrow,_,_,mr,hkids⟩ | ⟨hfs,rv,rfl⟩
   ·have HE:Hid (formOf (n+1) (.agg (.lit (.string [98,101,103,105,110])::r))=none):=HK.out.trans (by rw [if_neg (by simp [hlb])]);obtain⟨aor,capr,rfl,_⟩:=bC hrow;clear hB5 hfs hrow hlb hkids;go_wp2_with fail;go_ret;exact⟨HB5.out,.inr ⟨HE.out,rfl⟩⟩
   ·have HE:Hid (formOf (n+1) (.agg (.lit (.string [98,101,103,105,110])::r))=none):=HK.out.trans (by rw [hfs];simp);clear hB5 hfs hlb;go_wp2_with fail;go_ret;exact⟨HB5.out,.inr ⟨HE.out,rfl⟩⟩
  ·refine(cI n HF.out _ _ us r ((HS.out.tail r.length HL.out _ _ (by omega) (by intro hh;first | rfl | (exfalso;omega))).later HB2.out) (HA1.out.later HB2.out) (by omega) HLT.out).mono ?_;rintro e w5 ⟨hB5,hcase⟩;have HB5:Hid (Below w.heap.size w w5):=HB2.out.trans (hB5.mono hsz2);have hsz5:=HB5.out.size;rcases hcase with⟨gs,rv,fs,hfs,rfl,hrow,_,_,mr,hkids⟩ | ⟨hfs,rv,rfl⟩
   ·have HE:Hid (formOf (n+1) (.agg (.lit (.string [98,101,103,105,110])::r))=none):=HK.out.trans (by rw [if_neg (by simp [hlb])]);obtain⟨aor,capr,rfl,_⟩:=bC hrow;clear hB5 hfs hrow hlb hkids;go_wp2_with fail;go_ret;exact⟨HB5.out,.inr ⟨HE.out,rfl⟩⟩
   ·have HE:Hid (formOf (n+1) (.agg (.lit (.string [98,101,103,105,110])::r))=none):=HK.out.trans (by rw [hfs];simp);clear hB5 hfs hlb;go_wp2_with fail;go_ret;exact⟨HB5.out,.inr ⟨HE.out,rfl⟩⟩
theorem FoPost.one{w w':World}{o:Option PF}{e:Ending}(h:FoPost w o e w'):∃po,e=.returned (.pointer po)/\Below w.heap.size w w'/\((∃f b,o=some f/\po=some ⟨b,0,none⟩/\∃m,RepU false m w' w.heap.size w'.heap.size (.pointer (some ⟨b,0,none⟩)) f)\/(o=none/\po=none)):=by
 obtain⟨hB,⟨f,b,hr,rfl,hm⟩ | ⟨hr,rfl⟩⟩:=h
 ·exact⟨_,rfl,hB,.inl ⟨f,b,hr,rfl,hm⟩⟩
 ·exact⟨_,rfl,hB,.inr ⟨hr,rfl⟩⟩
theorem kC(n:Nat)(hF:FoSaid n)(ok:Nat->Prop)(w:World)(v:Value)(r:List Tr)(h:RepR ok (n+1) w v (.agg (.lit (.string [108,97,109,98,100,97])::r)))(hLT:∀x∈r,dF n x) :Calls prog 122 #[v] w fun e w'=>FoPost w (formOf (n+1) (.agg (.lit (.string [108,97,109,98,100,97])::r))) e w':=by
 have HK:Hid (formOf (n+1) (.agg (.lit (.string [108,97,109,98,100,97])::r))=Pl.lam2F (formOf n) r):=(d9 n _ r (by decide)).trans rfl;have HR:Hid (RepR ok (n+1) w v (.agg ((.lit (.string [108,97,109,98,100,97]))::r))):=h;have HF:Hid (FoSaid n):=hF;have hlen:((.lit (.string [108,97,109,98,100,97]))::r).length<=1000:=h.short;simp only [List.length_cons] at hlen;obtain⟨b,g,off,cap,u0,us,rfl,hb,ck,c3,hcap,hg,c0,hS,hlr,r0,hA,hA1⟩:=h.cons;have HS:Hid (SlOf w (.slice (some ⟨g,off,none⟩) (r.length+1) cap) (u0::us)):=hS;have HA:Hid (AllR n w (u0::us) ((.lit (.string [108,97,109,98,100,97]))::r)):=hA;have HA1:Hid (AllR n w us r):=hA1;have HL:Hid (us.length=r.length):=hlr;obtain⟨b0,rfl,hb0,ck0,cs0⟩:=r0.cellS;have R0:Hid (RepR ok n w _ (.lit (.string [108,97,109,98,100,97]))):=r0;have HLT:Hid (∀x∈r,dF n x):=hLT;clear h hF hLT hS hA hA1 hlr r0;have ck1:w.cell? ⟨b0,0,none⟩=some (.string ⟨#[110,97,109,101]⟩):=ck0;have cs1:w.cell? ⟨b0,2,none⟩=some (.string ⟨([108,97,109,98,100,97]).toArray⟩):=cs0;clear ck0 cs0;by_cases hl:r.length=2
 ·obtain⟨t1,t2,rfl⟩:∃t1 t2,r=[t1,t2]:=by
   match r,hl with
   | [a,b],_=>exact⟨a,b,rfl⟩
  obtain⟨y1,y2,rfl⟩:∃y1 y2,us=[y1,y2]:=by
   match us,HL.out with
   | [a,b],_=>exact⟨a,b,rfl⟩
  obtain⟨g',off',cap',eS,_,_,_,hs⟩:=HS.out.cell0;simp only [Value.slice.injEq,Option.some.injEq,Addr.mk.injEq,and_true] at eS;obtain⟨⟨rfl,rfl⟩,_,rfl⟩:=eS;have k1:=hs 0 y1 rfl;have k2:=hs 1 y2 rfl;simp only [Nat.zero_add,List.length_cons,List.length_nil] at k1 k2 c3 hcap;obtain⟨hl1,okA,hA⟩:=HA1.out;have r1:RepR okA n w y1 t1:=hA 0 y1 t1 rfl rfl;have r2:RepR okA n w y2 t2:=hA 1 y2 t2 rfl rfl;obtain⟨d1,rfl⟩:=r1.ptr;obtain⟨d2,rfl⟩:=r2.ptr;have R1:Hid (RepR okA n w _ t1):=r1;have R2:Hid (RepR okA n w _ t2):=r2;clear hs r1 r2 hA hl1 hl;have e1:isName (.agg ((.lit (.string [108,97,109,98,100,97]))::[t1,t2]))=false:=rfl;go_enter func122,ntmps122;go_wp2_with fail;refine(aV ok (n+1) _ _ _ HR.out).mono ?_;rintro e w1 ⟨rfl,hB1⟩;obtain⟨q1,_⟩:=bP hB1;have HB1:Hid (Below w.heap.size w w1):=hB1;have hsz:=hB1.size;clear hB1;go_wp2_with fail;refine(aR [108,97,109,98,100,97] _).mono ?_;rintro e w2 ⟨rfl,hB2⟩;have HB2:Hid (Below w.heap.size w w2):=HB1.out.trans (hB2.mono hsz);obtain⟨q2,_⟩:=bP HB2.out;have hsz2:=HB2.out.size;rw [show kwB [108,97,109,98,100,97]=true from by first | assumption | decide];clear hB2 q1 HB1 hsz;go_wp2_with fail;have j3:=(q2 b 3 hb).trans c3;have j1:=(q2 g (off+1) hg).trans k1;have j2:=(q2 g (off+(1+1)) hg).trans k2
  go_region_held3 (fun w'=>w'.cell? ⟨b,3,none⟩=some (.slice (some ⟨g,off,none⟩) 3 cap)/\w'.cell? ⟨g,off+1,none⟩=some (.pointer (some ⟨d1,0,none⟩))/\w'.cell? ⟨g,off+2,none⟩=some (.pointer (some ⟨d2,0,none⟩))/\Hid (Below w.heap.size w w'))
   (first
    | (go_split_ands;exact⟨by assumption,by assumption,by assumption,kY (by assumption)⟩)
    | exact⟨j5,j6,j7,HB5⟩
    | go_keep)
   (first | (go_at_call 164;refine(mT n HF.out okA okA _ _ _ t1 t2 (R1.out.later HB2.out.drew) (R2.out.later HB2.out.drew) (HLT.out t2 (by simp))).mono ?_;rintro e w5 hp;obtain⟨po,rfl,hB5,hcase⟩:=FoPost.one hp;have HB5:Hid (Below w.heap.size w w5):=(HB2.out.drew.trans (hB5.mono hsz2));have j5:=(HB5.out.cell (p:=⟨b,3,none⟩) hb).trans c3;have j6:=(HB5.out.cell (p:=⟨g,off+1,none⟩) hg).trans k1;have j7:=(HB5.out.cell (p:=⟨g,off+(1+1),none⟩) hg).trans k2))
  have HC:Hid _:=hcase;clear hcase hp j5 j6 j7 hB5;go_wp2_with fail;go_ret;rcases HC.out with⟨f,bf,hr,rfl,m5,hrep⟩ | ⟨hr,rfl⟩
  ·exact⟨HB5.out,.inl ⟨_,_,HK.out.trans hr,rfl,m5,hrep.wide hsz2 (Nat.le_refl _)⟩⟩
  ·exact⟨HB5.out,.inr ⟨HK.out.trans hr,rfl⟩⟩
 ·have hl2:((r.length:Int)+1==3)=false:=by simp;omega
  have HE:Hid (formOf (n+1) (.agg (.lit (.string [108,97,109,98,100,97])::r))=none):=HK.out.trans (by
   unfold Pl.lam2F;split
   ·simp at hl
   ·rfl)
  clear hl;have e1:isName (.agg ((.lit (.string [108,97,109,98,100,97]))::r))=false:=rfl;have hn0:((r.length:Int)+1==0)=false:=by simp;omega
  go_enter func122,ntmps122
  go_wp2_with fail
  refine(aV ok (n+1) _ _ _ HR.out).mono ?_;rintro e w1 ⟨rfl,hB1⟩;obtain⟨q1,_⟩:=bP hB1;have HB1:Hid (Below w.heap.size w w1):=hB1;have hsz:=hB1.size;clear hB1;go_wp2_with fail;refine(aR [108,97,109,98,100,97] _).mono ?_;rintro e w2 ⟨rfl,hB2⟩;have HB2:Hid (Below w.heap.size w w2):=HB1.out.trans (hB2.mono hsz);obtain⟨q2,_⟩:=bP HB2.out;have hsz2:=HB2.out.size;rw [show kwB [108,97,109,98,100,97]=true from by first | assumption | decide];clear hB2 q1 HB1 hsz;go_wp2_with fail;go_ret;exact⟨HB2.out,.inr ⟨HE.out,rfl⟩⟩
theorem oP(n:Nat)(hF:FoSaid n)(ok:Nat->Prop)(w:World)(v:Value)(r:List Tr)(h:RepR ok (n+1) w v (.agg (.lit (.string [108,101,116])::r)))(hLT:∀x∈r,dF n x) :Calls prog 122 #[v] w fun e w'=>FoPost w (formOf (n+1) (.agg (.lit (.string [108,101,116])::r))) e w':=by
 have HK:Hid (formOf (n+1) (.agg (.lit (.string [108,101,116])::r))=Pl.let2F (formOf n) r):=(d9 n _ r (by decide)).trans rfl;have HR:Hid (RepR ok (n+1) w v (.agg ((.lit (.string [108,101,116]))::r))):=h;have HF:Hid (FoSaid n):=hF;have hlen:((.lit (.string [108,101,116]))::r).length<=1000:=h.short;simp only [List.length_cons] at hlen;obtain⟨b,g,off,cap,u0,us,rfl,hb,ck,c3,hcap,hg,c0,hS,hlr,r0,hA,hA1⟩:=h.cons;have HS:Hid (SlOf w (.slice (some ⟨g,off,none⟩) (r.length+1) cap) (u0::us)):=hS;have HA:Hid (AllR n w (u0::us) ((.lit (.string [108,101,116]))::r)):=hA;have HA1:Hid (AllR n w us r):=hA1;have HL:Hid (us.length=r.length):=hlr;obtain⟨b0,rfl,hb0,ck0,cs0⟩:=r0.cellS;have R0:Hid (RepR ok n w _ (.lit (.string [108,101,116]))):=r0;have HLT:Hid (∀x∈r,dF n x):=hLT;clear h hF hLT hS hA hA1 hlr r0;have ck1:w.cell? ⟨b0,0,none⟩=some (.string ⟨#[110,97,109,101]⟩):=ck0;have cs1:w.cell? ⟨b0,2,none⟩=some (.string ⟨([108,101,116]).toArray⟩):=cs0;clear ck0 cs0;by_cases hl:r.length=2
 ·obtain⟨t1,t2,rfl⟩:∃t1 t2,r=[t1,t2]:=by
   match r,hl with
   | [a,b],_=>exact⟨a,b,rfl⟩
  obtain⟨y1,y2,rfl⟩:∃y1 y2,us=[y1,y2]:=by
   match us,HL.out with
   | [a,b],_=>exact⟨a,b,rfl⟩
  obtain⟨g',off',cap',eS,_,_,_,hs⟩:=HS.out.cell0;simp only [Value.slice.injEq,Option.some.injEq,Addr.mk.injEq,and_true] at eS;obtain⟨⟨rfl,rfl⟩,_,rfl⟩:=eS;have k1:=hs 0 y1 rfl;have k2:=hs 1 y2 rfl;simp only [Nat.zero_add,List.length_cons,List.length_nil] at k1 k2 c3 hcap;obtain⟨hl1,okA,hA⟩:=HA1.out;have r1:RepR okA n w y1 t1:=hA 0 y1 t1 rfl rfl;have r2:RepR okA n w y2 t2:=hA 1 y2 t2 rfl rfl;obtain⟨d1,rfl⟩:=r1.ptr;obtain⟨d2,rfl⟩:=r2.ptr;have R1:Hid (RepR okA n w _ t1):=r1;have R2:Hid (RepR okA n w _ t2):=r2;clear hs r1 r2 hA hl1 hl;have e1:isName (.agg ((.lit (.string [108,101,116]))::[t1,t2]))=false:=rfl;go_enter func122,ntmps122;go_wp2_with fail;refine(aV ok (n+1) _ _ _ HR.out).mono ?_;rintro e w1 ⟨rfl,hB1⟩;obtain⟨q1,_⟩:=bP hB1;have HB1:Hid (Below w.heap.size w w1):=hB1;have hsz:=hB1.size;clear hB1;go_wp2_with fail;refine(aR [108,101,116] _).mono ?_;rintro e w2 ⟨rfl,hB2⟩;have HB2:Hid (Below w.heap.size w w2):=HB1.out.trans (hB2.mono hsz);obtain⟨q2,_⟩:=bP HB2.out;have hsz2:=HB2.out.size;rw [show kwB [108,101,116]=true from by first | assumption | decide];clear hB2 q1 HB1 hsz;go_wp2_with fail;have j3:=(q2 b 3 hb).trans c3;have j1:=(q2 g (off+1) hg).trans k1;have j2:=(q2 g (off+(1+1)) hg).trans k2
  go_region_held3 (fun w'=>w'.cell? ⟨b,3,none⟩=some (.slice (some ⟨g,off,none⟩) 3 cap)/\w'.cell? ⟨g,off+1,none⟩=some (.pointer (some ⟨d1,0,none⟩))/\w'.cell? ⟨g,off+2,none⟩=some (.pointer (some ⟨d2,0,none⟩))/\Hid (Below w.heap.size w w'))
   (first
    | (go_split_ands;exact⟨by assumption,by assumption,by assumption,kY (by assumption)⟩)
    | exact⟨j5,j6,j7,HB5⟩
    | go_keep)
   (first | (go_at_call 165;refine(rf_let n HF.out okA okA _ _ _ t1 t2 (R1.out.later HB2.out.drew) (R2.out.later HB2.out.drew) (HLT.out t1 (by simp)) (HLT.out t2 (by simp))).mono ?_;rintro e w5 hp;obtain⟨po,rfl,hB5,hcase⟩:=FoPost.one hp;have HB5:Hid (Below w.heap.size w w5):=(HB2.out.drew.trans (hB5.mono hsz2));have j5:=(HB5.out.cell (p:=⟨b,3,none⟩) hb).trans c3;have j6:=(HB5.out.cell (p:=⟨g,off+1,none⟩) hg).trans k1;have j7:=(HB5.out.cell (p:=⟨g,off+(1+1),none⟩) hg).trans k2))
  have HC:Hid _:=hcase;clear hcase hp j5 j6 j7 hB5;go_wp2_with fail;go_ret;rcases HC.out with⟨f,bf,hr,rfl,m5,hrep⟩ | ⟨hr,rfl⟩
  ·exact⟨HB5.out,.inl ⟨_,_,HK.out.trans hr,rfl,m5,hrep.wide hsz2 (Nat.le_refl _)⟩⟩
  ·exact⟨HB5.out,.inr ⟨HK.out.trans hr,rfl⟩⟩
 ·have hl2:((r.length:Int)+1==3)=false:=by simp;omega
  have HE:Hid (formOf (n+1) (.agg (.lit (.string [108,101,116])::r))=none):=HK.out.trans (by
   unfold Pl.let2F;split
   ·simp at hl
   ·rfl)
  clear hl;have e1:isName (.agg ((.lit (.string [108,101,116]))::r))=false:=rfl;have hn0:((r.length:Int)+1==0)=false:=by simp;omega
  go_enter func122,ntmps122
  go_wp2_with fail
  refine(aV ok (n+1) _ _ _ HR.out).mono ?_;rintro e w1 ⟨rfl,hB1⟩;obtain⟨q1,_⟩:=bP hB1;have HB1:Hid (Below w.heap.size w w1):=hB1;have hsz:=hB1.size;clear hB1;go_wp2_with fail;refine(aR [108,101,116] _).mono ?_;rintro e w2 ⟨rfl,hB2⟩;have HB2:Hid (Below w.heap.size w w2):=HB1.out.trans (hB2.mono hsz);obtain⟨q2,_⟩:=bP HB2.out;have hsz2:=HB2.out.size;rw [show kwB [108,101,116]=true from by first | assumption | decide];clear hB2 q1 HB1 hsz;go_wp2_with fail;go_ret;exact⟨HB2.out,.inr ⟨HE.out,rfl⟩⟩
theorem gP:∀n:Nat,n<=1000->FoSaid n
 | 0,_=>fun _ _ _ _ h=>h.elim
 | n+1,hn=>by
  have ih:=gP n (by omega);intro ok w v t h hl;by_cases hls:∃ts,t=.agg ts
  ·obtain⟨ts,rfl⟩:=hls
   cases ts with
   | nil=>exact oO n ok w v h
   | cons k r =>
    have hr:∀x∈r,dF n x:=fun x hx=>hl.2 x (List.mem_cons_of_mem _ hx)
    cases hk:Pl.headKw (k::r) with
    | none=>exact mU n ih ok w v k r h hl.2 hk
    | some hd =>
     obtain⟨rfl,hkw⟩:=pO hk;have hm:=(Pl.kwB_sound hd).1 hkw;simp only [Pl.kws,List.mem_cons,List.not_mem_nil,or_false] at hm;rcases hm with rfl | rfl | rfl | rfl | rfl | rfl | rfl
     ·exact lC n hn ih ok w v r h (dF.big _ _ hl) hr
     ·exact rQ n ih ok w v r h hr
     ·exact kC n ih ok w v r h hr
     ·exact oN n ih ok w v r h hr
     ·exact kD n ih ok w v r h hr
     ·exact lD n ih ok w v r h hr
     ·exact oP n ih ok w v r h hr
  ·exact mV n hn ok w v t h (dF.big _ _ hl) hls
end
end Go.Proofs.YtkgbdddkcjpgfaaGreatDoor
