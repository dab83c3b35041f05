import Derived.Deep.RegionHeld3
import Derived.Deep.RegionLaw
import Derived.Laws.AppendOwnNone
import Derived.Test.YtkgbdddkcjpgfaaGreatDoorS29
import Derived.Deep.RegionWith
namespace Go.Proofs.YtkgbdddkcjpgfaaGreatDoor
set_option maxHeartbeats 2000000
set_option maxRecDepth 100000
open Go.Proofs.Tryz
open Pl (PF Byt FK formOf mkF kwB isName)
section
open Go.RowKit
variable {o2:Obj} {m lo n:Nat} {w:World} {us:List Value}
theorem let_len{ok:Nat->Prop}{vvs vs:List Value}{ts:List Tr}(hV:ChR ok m w vvs (ts.map Pl.sndOf))(hA:∀(i:Nat)(u:Value)(x:Tr),vs[i]?=some u->ts[i]?=some x->RepR ok m w u x)(hvl:vs.length=ts.length)(hP:ts.all Pl.isPair=true)(hl:dF (m+1) (.agg ts)):∀x∈ts.map Pl.sndOf,dF (m+1) x:=by
 intro b hb;obtain⟨x,hx,rfl⟩:=List.mem_map.1 hb;obtain⟨i,hi⟩:=List.mem_iff_getElem?.1 hx;have hpx:=List.all_eq_true.1 hP x hx;have hlt:=(List.getElem?_eq_some_iff.1 hi).1;have hvl2:vvs.length=ts.length:=by have:=hV.1;simpa using this
 have hr:=hV.2 i vvs[i] (Pl.sndOf x) (List.getElem?_eq_getElem (by omega)) (by rw [List.getElem?_map,hi];rfl);have hlx:=hl.2 x hx;refine pE m (m+1) _ _ hr ?_;have hrx:=hA i vs[i] x (List.getElem?_eq_getElem (by omega)) hi;unfold Pl.isPair at hpx;split at hpx
 ·next a c =>have:=pE m (m+1) _ _ hrx hlx;exact this.2 c (by simp)
 ·simp at hpx
theorem zV{w3:World}{u:Value}{fh:PF}{gs:List PF}(hK:KidsU (RepU false m w3) lo w3.heap.size (u::us) (fh::gs))(hlo:lo<=w3.heap.size)(hg:gs.length=n)(hn:n=0)(hul:us.length=0)
  (ho:o2=.cells #[byV (fkS .call),byV [],.pointer none,.slice (some ⟨w3.heap.size,0,none⟩) 1 1,.slice none 0 0,byV [],.int .i64 0,byV []] TFo (0,0)) :
  RepU false (m+1) ((w3.alloc (.cells #[u] TFP)).alloc o2) lo ((w3.alloc (.cells #[u] TFP)).alloc o2).heap.size (.pointer (some ⟨w3.heap.size+1,0,none⟩)) (mkF .call [] .nil (fh::gs) []):=by
 obtain rfl:us=[]:=List.eq_nil_of_length_eq_zero hul;obtain rfl:gs=[]:=List.eq_nil_of_length_eq_zero (by omega);have h1:(w3.alloc (.cells #[u] TFP)).heap.size=w3.heap.size+1:=by simp
 have hb:Below w3.heap.size w3 (w3.alloc (.cells #[u] TFP)):=(Below.refl _ _).alloc (Nat.le_refl _) _;have:=RepU.many (k:=.call) (lo:=lo) (base:=w3.heap.size) (lZ w3 TFP u) hlo (by omega) (hK.mono (Nat.le_refl _) (by omega) (fun _ _ _ _ _ _ h=>h.later hb)) (by simp) (Nat.le_refl _) (by simp) ho rfl;rw [h1] at this;exact this
theorem zU{w3 w6:World}{u:Value}{fh:PF}{gs:List PF}{L base:Nat}{kv:Value}{o1:Obj}{row:Option Nat}(hK:KidsU (RepU false m w3) lo w3.heap.size (u::us) (fh::gs))(hlo:lo<=w3.heap.size)(hg:gs.length=n)(hn:n<=900)
  (hown:w6.ownsRow base TFP 1 kv L ([u]++us)) (hgr:(w3.alloc o1).grownBy w6 row) (hrow:∀k,row=some k->w3.heap.size<=k) (hbase:lo<=base) (hL:L=n+1)
  (ho:o2=.cells #[byV (fkS .call),byV [],.pointer none,kv,.slice none 0 0,byV [],.int .i64 0,byV []] TFo (0,0)) :
  RepU false (m+1) (w6.alloc o2) lo (w6.alloc o2).heap.size (.pointer (some ⟨w6.heap.size,0,none⟩)) (mkF .call [] .nil (fh::gs) []):=by
 subst hL hg;have hs:w3.heap.size+1<=w6.heap.size:=by have:=hgr.size;simpa using this
 have hb:Below w3.heap.size w3 w6:=((Below.refl _ _).alloc (Nat.le_refl _) o1).grown hgr (by simp) hrow;exact RepU.many (k:=.call) (lo:=lo) (base:=base) hown hbase (by omega) (hK.mono (Nat.le_refl _) (by omega) (fun _ _ _ _ _ _ h=>h.later hb)) (by simp) (by show 1<=_;simp) (by simp;omega) ho rfl
theorem rf_let(n:Nat)(hF:FoSaid n)(ok ok':Nat->Prop)(w:World)(pv bv:Value)(ps bd:Tr)(h:RepR ok n w pv ps)(hbd:RepR ok' n w bv bd)(hLp:dF n ps)(hLb:dF n bd) :Calls prog 165 #[pv,bv] w fun e w'=>FoPost w (Pl.letF (formOf n) ps bd) e w':=by
 obtain⟨i0,hi0,hz0,hz1,hz2⟩:=info_parts Tryz.infoPD;obtain⟨i1,hi1,hy0,hy1,hy2⟩:=info_parts Tryz.infoPF;have HF:Hid (FoSaid n):=hF;have HLp:Hid (dF n ps/\dF n bd):=⟨hLp,hLb⟩
 clear hLp hLb;have HN:Hid _:=h;obtain⟨b,rfl,hb,ck,_⟩:=h.cellS;obtain⟨bb,rfl⟩:=hbd.ptr;have HBd:Hid _:=hbd;clear hF h hbd;by_cases hls:∃ts,ps=.agg ts
 ·obtain⟨ts,rfl⟩:=hls;have hlen:=HN.out.short
  obtain⟨m,rfl⟩:∃m,n=m+1:=by
   cases n with
   | zero=>exact HN.out.elim
   | succ m=>exact⟨m,rfl⟩
  have ck2:w.cell? ⟨b,0,none⟩=some (.string ⟨#[108,105,115,116]⟩):=ck;clear ck;obtain⟨b',kids,vs,e,_,_,c3,hS,hvl,hA⟩:=HN.out.list;simp only [Value.pointer.injEq,Option.some.injEq,Addr.mk.injEq,and_true] at e;subst e;obtain⟨ao,cap,rfl,hcap,hcell⟩:=hS;rw [hvl] at c3 hcap;have HV:Hid (vs.length=ts.length):=hvl;have HC:Hid _:=hcell;have HA:Hid _:=hA;clear hvl hcell hA;go_enter func165,ntmps165;go_wp2_with fail
  go_loopw [6,7] (fun vv i wr=>∃(k:Nat)(kn:Value)(nvs vvs:List Value),k<=ts.length/\i=.int .i64 k/\Hid (LetInv w wr w.heap.size k k kn vv nvs vvs)/\Hid ((ts.take k).all Pl.isPair=true)/\Hid (ChR ok m w nvs ((ts.take k).map Pl.fstOf))/\Hid (ChR ok m w vvs ((ts.take k).map Pl.sndOf))) (fun _ i _=>ts.length-(intOf i).toNat)
  case atStart=>exact⟨0,_,[],[],Nat.zero_le _,rfl,LetInv.start _ rfl,by simp [Hid],by simpa [Hid] using ChR.nil ok m w,by simpa [Hid] using ChR.nil ok m w⟩
  case round =>
   obtain⟨k,kn,nvs,vvs,hk,rfl,HL,HP,HN1,HV1⟩:=hrel;obtain⟨q1,_⟩:=bP HL.out.below;have cG:=aA HL.out.out 3;have fG:=aF HL.out.out 3;by_cases hlt:k<ts.length
   ·obtain⟨u,hu⟩:∃u,vs[k]?=some u:=⟨vs[k]'(by have:=HV.out;omega),List.getElem?_eq_getElem (by have:=HV.out;omega)⟩
    obtain⟨x,hx⟩:∃x,ts[k]?=some x:=⟨ts[k],List.getElem?_eq_getElem hlt⟩
    obtain⟨g,off,rfl,hg,hc⟩:=HC.out k u hu;have hr:=HA.out k u x hu hx;have HX:Hid _:=hx;clear hu hx;have hlt2:(k:Int)<(ts.length:Int):=by omega
    have HR:Hid _:=hr;obtain⟨bu,rfl,hbu,cku,_⟩:=hr.cellS;clear hr;by_cases hxl:∃xs,x=.agg xs
    ·obtain⟨xs,rfl⟩:=hxl;have cku2:w.cell? ⟨bu,0,none⟩=some (.string ⟨#[108,105,115,116]⟩):=cku;clear cku
     obtain⟨m',rfl⟩:∃m',m=m'+1:=by
      cases m with
      | zero=>exact HR.out.elim
      | succ m'=>exact⟨m',rfl⟩
     obtain⟨bu',kx,vx,e,_,_,cx3,hSx,hvlx,hAx⟩:=HR.out.list;simp only [Value.pointer.injEq,Option.some.injEq,Addr.mk.injEq,and_true] at e;subst e;by_cases h2:xs.length=2
     ·obtain⟨x0,x1,rfl⟩:∃x0 x1,xs=[x0,x1]:=by
       match xs,h2 with
       | [a,b],_=>exact⟨a,b,rfl⟩
      obtain⟨y0,y1,rfl⟩:∃y0 y1,vx=[y0,y1]:=by
       match vx,hvlx with
       | [a,b],_=>exact⟨a,b,rfl⟩
      obtain⟨gx,offx,capx,rfl,hcapx,hgx,z0,zs⟩:=hSx.cell0;have z1:=zs 0 y1 rfl;simp only [Nat.zero_add,List.length_cons,List.length_nil] at z1 cx3 hcapx;have r0:RepR ok (m'+1) w y0 x0:=RepR.up _ _ _ _ (Nat.le_succ _) (hAx 0 y0 x0 rfl rfl);have r1:RepR ok (m'+1) w y1 x1:=RepR.up _ _ _ _ (Nat.le_succ _) (hAx 1 y1 x1 rfl rfl);have HP2:Hid ((ts.take (k+1)).all Pl.isPair=true):=eA HP.out HX.out rfl;have HN2:Hid (ChR ok (m'+1) w (nvs++[y0]) ((ts.take (k+1)).map Pl.fstOf)):=show ChR _ _ _ _ _ from by rw [c8 _ HX.out];exact HN1.out.snoc r0
      have HV2:Hid (ChR ok (m'+1) w (vvs++[y1]) ((ts.take (k+1)).map Pl.sndOf)):=show ChR _ _ _ _ _ from by rw [c8 _ HX.out];exact HV1.out.snoc r1
      obtain⟨by0,rfl⟩:=r0.ptr;obtain⟨by1,rfl⟩:=r1.ptr;clear hSx hvlx hAx zs h2 HP HN1 HV1 r0 r1;have hwr:=HL.out.below.size;have hltG:w.heap.size<wr.heap.size:=aB HL.out.out;have aG:kn.ownBlock≠some w.heap.size:=fun e=>by have:=(HL.out.nrow.lt _ e).1;omega
      have abu:kn.ownBlock≠some bu:=fun e=>by have:=(HL.out.nrow.lt _ e).1;omega
      have agx:kn.ownBlock≠some gx:=fun e=>by have:=(HL.out.nrow.lt _ e).1;omega
      have cx3':wr.cell? ⟨bu,3,none⟩=some (.slice (some ⟨gx,offx,none⟩) 2 capx):=(q1 bu 3 hbu).trans cx3;have z0':wr.cell? ⟨gx,offx,none⟩=some (.pointer (some ⟨by0,0,none⟩)):=(q1 gx offx hgx).trans z0;have fA:∀ob:Obj,(wr.alloc ob).frozen? ⟨w.heap.size,3,none⟩=false:=fun ob=>aF ((Below.heap_alloc wr ob _ hltG).trans HL.out.out) 3;have cA:∀ob:Obj,(wr.alloc ob).cell? ⟨w.heap.size,3,none⟩=some kn:=fun ob=>aA ((Below.heap_alloc wr ob _ hltG).trans HL.out.out) 3;have q2:=bcellA HL.out.below;go_wp2_with fail
      go_region_law ((refine step_append_lies _ (by rfl) _ _ _ (by rfl) (w.heap.size+1) 135 i0 _ 1 8 underlying237 hi0 hz0 hz1 hz2 rfl (by omega) kn k nvs (by rfl) ((HL.out.nrow.alloc _).drew) ⟨wr.heap.size,0,none⟩ 1 1 [.pointer (some ⟨by0,0,none⟩)] (by rfl) (by rfl) (World.news_of_block (cs:=#[.pointer (some ⟨by0,0,none⟩)]) (t:=135) (fr:=(0,0)) (heap_alloc_new wr _)) (by simp [Value.oneCell']) (by omega) (by unfold maxLen;omega) (by omega) (by simp;omega) (wr.heap.size+1) (by simp) ?_;intro g3 cap3 w3 hown3 hgrow3 hat3 hlt3;have cG3:=(hgrow3.cell_far ⟨w.heap.size,3,none⟩ (by simp;omega) (Ne.symm aG)).trans (cA _);have fG3:=(hgrow3.frozen_far ⟨w.heap.size,3,none⟩ (by simp;omega) (Ne.symm aG)).trans (fA _)))
      all_goals
       have HL2:Hid _:=HL.out.pushN hown3 (l9 hgrow3) hat3;clear cG3 fG3 hgrow3 hown3 hat3 hlt3 HL cG fG q1 q2 cA fA cx3' z0';generalize w3.setCell ⟨w.heap.size,3,none⟩ (.slice (some ⟨g3,0,none⟩) (k+1) cap3)=W3 at *;obtain⟨q1,_⟩:=bP HL2.out.below;have hwr3:w.heap.size<W3.heap.size:=aB HL2.out.out;go_wp2_with (first | (at_builtin;refine wpList_append_lies _ rfl _ _ 237 rfl (w.heap.size+1) 135 i0 (.pointer none) 1 8 underlying237 hi0 hz0 hz1 hz2 rfl (by decide) u6 k vvs rfl (HL2.out.vrow.alloc _) ⟨W3.heap.size,0,none⟩ 1 1 [.pointer (some ⟨by1,0,none⟩)] rfl rfl (cell_one_new _ _ _) (fun x hx=>by simp at hx;subst hx;rfl) (by decide) (by unfold maxLen;omega) (by omega) (by simp;omega) (W3.heap.size+1) (by simp) ?_;intro g4 cap4 w4 hown4 hgrow4 hat4 _))
       go_roundw
       case rel=>exact⟨k+1,_,_,_,by omega,by go_num,HL2.out.pushV hown4 hgrow4 hat4,HP2,HN2,HV2⟩
       case measure=>simp [intOf];omega
     ·have HT:Hid (Pl.letF (formOf (m'+1+1)) (.agg ts) bd=none):=by
       have hf:Pl.isPair (.agg xs)=false:=by
        match xs,h2 with
        | [],_=>rfl
        | [_],_=>rfl
        | _::_::_::_,_=>rfl
       have:=gJ (f:=Pl.isPair) HX.out hf;simp [Hid,Pl.letF,this]
      obtain⟨aox,capx,rfl,_,_⟩:=hSx;rw [hvlx] at cx3;have hne:((xs.length:Int)!=2)=true:=by simp;omega
      clear hvlx hAx;go_wp2_with fail;go_ret;exact⟨HL.out.below,.inr ⟨HT.out,rfl⟩⟩
    ·have HT:Hid (Pl.letF (formOf (m+1)) (.agg ts) bd=none):=by
      have hf:Pl.isPair x=false:=by
       unfold Pl.isPair;split
       ·exact absurd ⟨_,rfl⟩ hxl
       ·rfl
      have:=gJ (f:=Pl.isPair) HX.out hf;simp [Hid,Pl.letF,this]
     obtain⟨kk,hkk,hk0⟩:=HR.out.notList hxl;rw [hkk] at cku;have hk1:(kk !=[108,105,115,116])=true:=by rw [bne,hk0];rfl
     clear hkk hxl;go_wp2_with fail;go_ret;exact⟨HL.out.below,.inr ⟨HT.out,rfl⟩⟩
   ·have hke:k=ts.length:=by omega
    subst hke;rw [List.take_length] at HP HN1 HV1;have hnm:RepR (fun _=>True) (m+1) wr (.pointer (some ⟨w.heap.size,0,none⟩)) (.agg (ts.map Pl.fstOf)):=HL.out.names HN1.out (by simp) (by simpa using hlen);have HNm:Hid _:=hnm;clear hnm hk hlt;have hwr:=HL.out.below.size;go_wp2_with fail;refine(mT (m+1) HF.out _ ok' _ _ _ (.agg (ts.map Pl.fstOf)) bd HNm.out (HBd.out.later HL.out.below) HLp.out.2).mono ?_;rintro e w2 ⟨hB2,hcase⟩;have HB2:Hid (Below w.heap.size w w2):=HL.out.below.trans (hB2.mono hwr);have HVr:Hid (w2.ownsRow (w.heap.size+1) TP 1 u6 ts.length vvs):=HL.out.vrow.kept (aQ none hB2) (by cases hv:Value.ownBlock u6<;>simp);have HC2:Hid _:=hcase;have hwr2:=hB2.size;clear hB2 hcase HNm cG fG q1 HL;have hsl:=bC HVr.out;obtain⟨aov,capv,rfl,_⟩:=id hsl;have HSl:Hid _:=hsl;clear hsl;have hsz2:=HB2.out.size;have HLs:Hid (∀x∈ts.map Pl.sndOf,dF (m+1) x):=let_len HV1.out HA.out HV.out HP.out HLp.out.1;have HWr:Hid (w.heap.size<=wr.heap.size/\wr.heap.size<=w2.heap.size/\ts.length<=900):=⟨hwr,hwr2,HLp.out.1.1⟩
    rcases HC2.out with⟨fh,bh,hlm,rfl,mh,hrh⟩ | ⟨hlm,rfl⟩
    ·have HLm:Hid (Pl.lamF (formOf (m+1)) (.agg (ts.map Pl.fstOf)) bd=some fh):=hlm;have HRh:Hid (RepU false mh w2 wr.heap.size w2.heap.size (.pointer (some ⟨bh,0,none⟩)) fh):=hrh;clear hlm HC2 hrh;go_wp2_with fail;refine(cI (m+1) HF.out _ _ vvs (ts.map Pl.sndOf) HSl.out ((HV1.out.later HB2.out).all (Nat.le_succ _)) (by simpa using hlen) HLs.out).mono ?_;rintro e w3 ⟨hB3,hcase⟩;have HB3:Hid (Below w.heap.size w w3):=HB2.out.trans (hB3.mono hsz2);have hsz3:=HB3.out.size;rcases hcase with⟨gs,rv,fs,hfs,rfl,hrow,hnil,hone,mr,hkids⟩ | ⟨hfs,rv,rfl⟩
     ·have HT:Hid (Pl.letF (formOf (m+1)) (.agg ts) bd=some (mkF .call [] .nil (fh::gs) [])):=by
       have h1:=HLm.out;show Pl.letF _ _ _=_;unfold Pl.letF;dsimp only;rw [if_pos HP.out,h1,hfs];rfl
      have HKd:Hid (KidsU (RepU false (mh+mr) w3) w.heap.size w3.heap.size (.pointer (some ⟨bh,0,none⟩)::fs) (fh::gs)):=show KidsU _ _ _ _ _ from KidsU.cons (hkids.mono (Nat.le_refl _) (Nat.le_refl _) (fun _ _ _ _ _ _ h=>RepU.up _ _ _ _ _ _ (by omega) h)) (Nat.le_trans HWr.out.1 HWr.out.2.1) hB3.size (RepU.wide HWr.out.1 (Nat.le_refl _) (RepU.up _ _ _ _ _ _ (by omega) (HRh.out.later hB3)));rw [List.length_map] at hrow hnil;have HGl:Hid (gs.length=ts.length):=show gs.length=ts.length from by have h1:=hkids.1;have h2:=hrow.1;omega
      clear hfs hB3 hkids;by_cases hz:ts.length=0
      ·have hv:=hnil hz;subst hv;have hz0':Hid (ts.length=0):=hz;have hfl0:Hid (fs.length=0):=show fs.length=0 from by have:=hrow.1;omega
       clear hnil hrow hone hz;go_wp2_with (first | (at_builtin;refine wpList_append_own_none rfl _ _ 180 rfl w3.heap.size 69 i1 1 underlying180 hi1 _ 1 _ rfl (lZ _ _ _) rfl ?_));go_ret;exact⟨(HB3.out.alloc hsz3 _).alloc (by simp;omega) _,.inl ⟨_,_,HT.out,rfl,_,zV HKd.out HB3.out.size HGl.out hz0'.out hfl0.out rfl⟩⟩
      ·have hgr5:=hrow.lt;obtain⟨g,cap5,rfl,_,_⟩:=hrow.form (by omega);have HRw:Hid (w3.ownsRow w2.heap.size TF 1 (.slice (some ⟨g,0,none⟩) ts.length cap5) ts.length fs):=hrow;have hfl:fs.length=ts.length:=by have:=hrow.1;omega
       clear hrow hnil;go_wp2_with (first | (at_builtin;refine wpList_append_lies _ rfl _ _ 180 rfl w3.heap.size 69 i1 (.pointer none) 1 8 underlying180 hi1 hy0 hy1 hy2 rfl (by decide) (.slice (some ⟨w3.heap.size,0,none⟩) 1 1) 1 _ rfl (lZ _ _ _) ⟨g,0,none⟩ ts.length cap5 fs rfl (by omega) ((HRw.out.alloc _).cells rfl) hone (by omega) (by unfold maxLen;omega) (by omega) (by simp) (w3.heap.size+1) (by simp) ?_;intro g6 cap6 w6 hown6 hgrow6 hat6 hlt6));go_ret;refine⟨Below.alloc ?_ ?_ _,.inl ⟨_,_,HT.out,rfl,_,zU HKd.out HB3.out.size HGl.out HWr.out.2.2 hown6 hgrow6 (fun j hj=>by simp [Value.ownBlock] at hj;omega) HB3.out.size (by omega) rfl⟩⟩
       ·exact(HB3.out.alloc hsz3 _).grown hgrow6 (by simp;omega) (fun j hj=>by simp [Value.ownBlock] at hj;omega)
       ·have:=hgrow6.size;simp at this;omega
     ·have HT:Hid (Pl.letF (formOf (m+1)) (.agg ts) bd=none):=by
       show Pl.letF _ _ _=none;unfold Pl.letF;dsimp only;rw [if_pos HP.out,HLm.out,hfs];rfl
      clear hB3 hfs;go_wp2_with fail;go_ret;exact⟨HB3.out,.inr ⟨HT.out,rfl⟩⟩
    ·have HT:Hid (Pl.letF (formOf (m+1)) (.agg ts) bd=none):=by
      show Pl.letF _ _ _=none;unfold Pl.letF;dsimp only;rw [if_pos HP.out,hlm];rfl
     clear hlm HC2;go_wp2_with fail;refine(cI (m+1) HF.out _ _ vvs (ts.map Pl.sndOf) HSl.out ((HV1.out.later HB2.out).all (Nat.le_succ _)) (by simpa using hlen) HLs.out).mono ?_;rintro e w3 ⟨hB3,hcase⟩;have HB3:Hid (Below w.heap.size w w3):=HB2.out.trans (hB3.mono hsz2);rcases hcase with⟨gs,rv,fs,hfs,rfl,hrow,hnil,hone,mr,hkids⟩ | ⟨hfs,rv,rfl⟩
     ·clear hB3 hfs hrow hnil hone hkids;go_wp2_with fail;go_ret;exact⟨HB3.out,.inr ⟨HT.out,rfl⟩⟩
     ·clear hB3 hfs;go_wp2_with fail;go_ret;exact⟨HB3.out,.inr ⟨HT.out,rfl⟩⟩
 ·have HT:Hid (Pl.letF (formOf n) ps bd=none):=by
   show Pl.letF _ _ _=none;unfold Pl.letF;split
   ·exact absurd ⟨_,rfl⟩ hls
   ·rfl
  obtain⟨kk,hkk,hk0⟩:=HN.out.notList hls;rw [hkk] at ck;have hk1:(kk !=[108,105,115,116])=true:=by rw [bne,hk0];rfl
  clear hkk hls;go_enter func165,ntmps165;go_wp2_with fail;go_ret;exact⟨Below.refl _ _,.inr ⟨HT.out,rfl⟩⟩
theorem iZ{ok:Nat->Prop}{w1 w':World}{v:Value}{t:Tr}(hn:n<=1000)(h:RepR ok n w v t)(hbg:cL n t)(hqo:uG t)(hb:Below w.heap.size w w1)(hlo:lo<=w1.heap.size)(ho:o2=.cells #[byV (fkS .const),byV [],v,.slice none 0 0,.slice none 0 0,byV [],.int .i64 0,byV []] TFo (0,0))(hw:w'=w1.alloc o2):RepU false 1 w' lo w'.heap.size (.pointer (some ⟨w1.heap.size,0,none⟩)) (mkF .const [] t [] []):=by subst hw;have hb2:Below w.heap.size w (w1.alloc o2):=hb.alloc hb.size _;exact RepU.leaf hlo (by simp) (by rw [<- ho];exact heap_alloc_new _ _) (fun _=>⟨n,hn,RepR.mono (fun _ _ _=>trivial) _ _ _ (h.later hb2),hbg,hqo⟩) rfl
theorem xQ{w1 w':World}{s:Byt}(hlo:lo<=w1.heap.size)(ho:o2=.cells #[byV (fkS .name),byV s,.pointer none,.slice none 0 0,.slice none 0 0,byV [],.int .i64 0,byV []] TFo (0,0))(hw:w'=w1.alloc o2):RepU false 1 w' lo w'.heap.size (.pointer (some ⟨w1.heap.size,0,none⟩)) (mkF .name s .nil [] []):=by subst hw;exact RepU.leaf hlo (by simp) (by rw [<- ho];exact heap_alloc_new _ _) (fun e=>by cases e) rfl
theorem fS{w2 w5:World}{k:FK}{rv:Value}{gs:List PF}{len:Nat}(h2:w.heap.size<=w2.heap.size)(h5:w2.heap.size<=w5.heap.size)(hrow:w5.ownsRow w2.heap.size TF 1 rv len us)(hk:KidsU (RepU false m w5) w2.heap.size w5.heap.size us gs)(hc:k≠.const)(hs:shape k gs.length)(hl:gs.length<=1000)
  (ho:o2=.cells #[byV (fkS k),byV [],.pointer none,rv,.slice none 0 0,byV [],.int .i64 0,byV []] TFo (0,0)):RepU false (m+1) (w5.alloc o2) w.heap.size (w5.alloc o2).heap.size (.pointer (some ⟨w5.heap.size,0,none⟩)) (mkF k [] .nil gs []):=by
 have hlen:gs.length=len:=by have h1:=hk.1;have h2:=hrow.1;omega
 subst hlen;exact RepU.many hrow h2 (Nat.le_trans h2 h5) (hk.mono h2 (Nat.le_refl _) (fun _ _ _ _ _ _ h=>h)) hc hs hl ho rfl
theorem mV(n:Nat)(hn:n+1<=1000)(ok:Nat->Prop)(w:World)(v:Value)(t:Tr)(h:RepR ok (n+1) w v t)(hbg:cL (n+1) t)(hls:¬∃ts,t=.agg ts) :Calls prog 122 #[v] w fun e w'=>FoPost w (formOf (n+1) t) e w':=by
 have HR:Hid (RepR ok (n+1) w v t):=h;have HBg:Hid (cL (n+1) t):=hbg;clear hbg;obtain⟨b,rfl,hb,ck,cs⟩:=h.cellS;rcases h.kinds with⟨k,m,rfl⟩ | ⟨x,rfl⟩ | ⟨s,rfl⟩ | hts
 ·have ck2:w.cell? ⟨b,0,none⟩=some (.string ⟨#[110,117,109,98,101,114]⟩):=ck;clear ck cs h hls;go_enter func122,ntmps122;go_wp2_with fail;refine(aV ok (n+1) _ _ _ HR.out).mono ?_;rintro e w1 ⟨rfl,hB1⟩;obtain⟨q1,_⟩:=bP hB1;have HB1:Hid (Below w.heap.size w w1):=hB1;have hsz:=hB1.size;clear hB1;go_wp2_with fail;go_ret;exact⟨HB1.out.alloc hsz _,.inl ⟨_,_,rfl,rfl,1,iZ hn HR.out HBg.out trivial HB1.out hsz rfl rfl⟩⟩
 ·have ck2:w.cell? ⟨b,0,none⟩=some (.string ⟨#[116,114,117,116,104]⟩):=ck;clear ck cs h hls;go_enter func122,ntmps122;go_wp2_with fail;refine(aV ok (n+1) _ _ _ HR.out).mono ?_;rintro e w1 ⟨rfl,hB1⟩;obtain⟨q1,_⟩:=bP hB1;have HB1:Hid (Below w.heap.size w w1):=hB1;have hsz:=hB1.size;clear hB1;go_wp2_with fail;go_ret;exact⟨HB1.out.alloc hsz _,.inl ⟨_,_,rfl,rfl,1,iZ hn HR.out HBg.out trivial HB1.out hsz rfl rfl⟩⟩
 ·have ck2:w.cell? ⟨b,0,none⟩=some (.string ⟨#[110,97,109,101]⟩):=ck;have cs2:w.cell? ⟨b,2,none⟩=some (.string ⟨s.toArray⟩):=cs;clear ck cs h hls;by_cases hk:kwB s=true
  ·have e1:isName (.lit (.string s))=false:=by simp [isName,hk]
   have HE:Hid (formOf (n+1) (.lit (.string s))=none):=by simp [Hid,formOf,hk]
   clear hk;go_enter func122,ntmps122;go_wp2_with fail;refine(aV ok (n+1) _ _ _ HR.out).mono ?_;rintro e w1 ⟨rfl,hB1⟩;obtain⟨q1,_⟩:=bP hB1;have HB1:Hid (Below w.heap.size w w1):=hB1;have hsz:=hB1.size;clear hB1;go_wp2_with fail;go_ret;exact⟨HB1.out,.inr ⟨HE.out,rfl⟩⟩
  ·have e1:isName (.lit (.string s))=true:=by simp [isName,hk]
   have HE:Hid (formOf (n+1) (.lit (.string s))=some (mkF .name s .nil [] [])):=by simp [Hid,formOf,hk]
   clear hk;go_enter func122,ntmps122;go_wp2_with fail;refine(aV ok (n+1) _ _ _ HR.out).mono ?_;rintro e w1 ⟨rfl,hB1⟩;obtain⟨q1,_⟩:=bP hB1;have HB1:Hid (Below w.heap.size w w1):=hB1;have hsz:=hB1.size;clear hB1;go_wp2_with fail;go_ret;exact⟨HB1.out.alloc hsz _,.inl ⟨_,_,HE.out,rfl,1,xQ hsz rfl rfl⟩⟩
 ·exact absurd hts hls
theorem oO(n:Nat)(ok:Nat->Prop)(w:World)(v:Value)(h:RepR ok (n+1) w v (.agg [])) :Calls prog 122 #[v] w fun e w'=>FoPost w (formOf (n+1) (.agg [])) e w':=by have HR:Hid (RepR ok (n+1) w v (.agg [])):=h;obtain⟨b,kids,vs,rfl,hb,ck,c3,hS,hl,_⟩:=h.list;have ck2:w.cell? ⟨b,0,none⟩=some (.string ⟨#[108,105,115,116]⟩):=ck;obtain⟨ao,cap,rfl,_⟩:=hS;rw [hl] at c3;simp only [List.length_nil] at c3;clear ck hl h;go_enter func122,ntmps122;go_wp2_with fail;refine(aV ok (n+1) _ _ _ HR.out).mono ?_;rintro e w1 ⟨rfl,hB1⟩;obtain⟨q1,_⟩:=bP hB1;have HB1:Hid (Below w.heap.size w w1):=hB1;have hsz:=hB1.size;clear hB1;go_wp2_with fail;go_ret;exact⟨HB1.out,.inr ⟨rfl,rfl⟩⟩
theorem wL(n:Nat)(k:Tr)(r:List Tr)(hk:Pl.headKw (k::r)=none):formOf (n+1) (.agg (k::r))=(Pl.allF (formOf n) (k::r)).map fun l=>mkF .call [] .nil l []:=by show(match Pl.headKw (k::r) with | some h=>Pl.keyF (formOf n) (.agg (k::r)) h r | none=>(Pl.allF (formOf n) (k::r)).map fun l=>mkF .call [] .nil l [])=_;rw [hk]
theorem d9(n:Nat)(h:List UInt8)(r:List Tr)(hk:kwB h=true):formOf (n+1) (.agg (.lit (.string h)::r))=Pl.keyF (formOf n) (.agg (.lit (.string h)::r)) h r:=by
 have:Pl.headKw (.lit (.string h)::r)=some h:=by unfold Pl.headKw;simp [hk]
 show(match Pl.headKw (.lit (.string h)::r) with | some h'=>Pl.keyF (formOf n) (.agg (.lit (.string h)::r)) h' r | none=>(Pl.allF (formOf n) (.lit (.string h)::r)).map fun l=>mkF .call [] .nil l [])=_;rw [this]
theorem mU(n:Nat)(hF:FoSaid n)(ok:Nat->Prop)(w:World)(v:Value)(k:Tr)(r:List Tr)(h:RepR ok (n+1) w v (.agg (k::r)))(hLT:∀x∈(k::r),dF n x)(hk:Pl.headKw (k::r)=none) :Calls prog 122 #[v] w fun e w'=>FoPost w (formOf (n+1) (.agg (k::r))) e w':=by
 have HK:Hid (formOf (n+1) (.agg (k::r))=(Pl.allF (formOf n) (k::r)).map fun l=>mkF .call [] .nil l []):=wL n k r hk;by_cases hnm:∃s,k=.lit (.string s)
 ·obtain⟨s,rfl⟩:=hnm
  have hkw:kwB s=false:=by
   unfold Pl.headKw at hk;by_cases hq:kwB s=true
   ·simp [hq] at hk
   ·simpa using hq
  clear hk;have HR:Hid (RepR ok (n+1) w v (.agg ((.lit (.string s))::r))):=h;have HF:Hid (FoSaid n):=hF;have hlen:((.lit (.string s))::r).length<=1000:=h.short;simp only [List.length_cons] at hlen;obtain⟨b,g,off,cap,u0,us,rfl,hb,ck,c3,hcap,hg,c0,hS,hlr,r0,hA,hA1⟩:=h.cons;have HS:Hid (SlOf w (.slice (some ⟨g,off,none⟩) (r.length+1) cap) (u0::us)):=hS;have HA:Hid (AllR n w (u0::us) ((.lit (.string s))::r)):=hA;have HA1:Hid (AllR n w us r):=hA1;have HL:Hid (us.length=r.length):=hlr;obtain⟨b0,rfl,hb0,ck0,cs0⟩:=r0.cellS;have R0:Hid (RepR ok n w _ (.lit (.string s))):=r0;have HLT:Hid (∀x∈((.lit (.string s))::r),dF n x):=hLT;clear h hF hLT hS hA hA1 hlr r0;have ck1:w.cell? ⟨b0,0,none⟩=some (.string ⟨#[110,97,109,101]⟩):=ck0;have cs1:w.cell? ⟨b0,2,none⟩=some (.string ⟨s.toArray⟩):=cs0;clear ck0 cs0;have e1:isName (.agg ((.lit (.string s))::r))=false:=rfl;have hn0:((r.length:Int)+1==0)=false:=by simp;omega
  go_enter func122,ntmps122
  go_wp2_with fail
  refine(aV ok (n+1) _ _ _ HR.out).mono ?_;rintro e w1 ⟨rfl,hB1⟩;obtain⟨q1,_⟩:=bP hB1;have HB1:Hid (Below w.heap.size w w1):=hB1;have hsz:=hB1.size;clear hB1;go_wp2_with fail;refine(aR s _).mono ?_;rintro e w2 ⟨rfl,hB2⟩;have HB2:Hid (Below w.heap.size w w2):=HB1.out.trans (hB2.mono hsz);obtain⟨q2,_⟩:=bP HB2.out;have hsz2:=HB2.out.size;rw [show kwB s=false from by first | assumption | decide];clear hB2 q1 HB1 hsz;go_wp2_with fail;refine(cI n HF.out _ _ _ ((.lit (.string s))::r) (HS.out.later HB2.out) (HA.out.later HB2.out) (by simpa using hlen) HLT.out).mono ?_;rintro e w5 ⟨hB5,hcase⟩;have HB5:Hid (Below w.heap.size w w5):=HB2.out.trans (hB5.mono hsz2);have hsz5:=HB5.out.size;rcases hcase with⟨gs,rv,fs,hfs,rfl,hrow,_,_,mr,hkids⟩ | ⟨hfs,rv,rfl⟩
  ·have HE:Hid (formOf (n+1) (.agg ((.lit (.string s))::r))=some (mkF .call [] .nil gs [])):=HK.out.trans (by rw [hfs];rfl);have HU:=(show Hid (∀o2,o2=Obj.cells #[byV (fkS .call),byV [],.pointer none,rv,.slice none 0 0,byV [],.int .i64 0,byV []] TFo (0,0)->RepU false (mr+1) (w5.alloc o2) w.heap.size (w5.alloc o2).heap.size (.pointer (some ⟨w5.heap.size,0,none⟩)) (mkF .call [] .nil gs [])) from fun o2 ho=>fS hsz2 hB5.size hrow hkids (by simp) (by show 1<=_;have:=hkids.1;have:=hrow.1;simp at this;omega) (by have:=hkids.1;have:=hrow.1;simp at this;omega) ho)
   have hfl:fs.length=((.lit (.string s))::r).length:=by have:=hrow.1;omega
   obtain⟨aor,capr,rfl,_⟩:=bC hrow;clear hB5 hfs hrow hkids;go_wp2_with fail;go_ret;exact⟨HB5.out.alloc hsz5 _,.inl ⟨_,_,HE.out,rfl,mr+1,HU.out _ (by rw [hfl];rfl)⟩⟩
  ·have HE:Hid (formOf (n+1) (.agg ((.lit (.string s))::r))=none):=HK.out.trans (by rw [hfs];rfl);clear hB5 hfs;go_wp2_with fail;go_ret;exact⟨HB5.out,.inr ⟨HE.out,rfl⟩⟩
 ·clear hk;have HR:Hid (RepR ok (n+1) w v (.agg (k::r))):=h;have HF:Hid (FoSaid n):=hF;have hlen:(k::r).length<=1000:=h.short;simp only [List.length_cons] at hlen;obtain⟨b,g,off,cap,u0,us,rfl,hb,ck,c3,hcap,hg,c0,hS,hlr,r0,hA,hA1⟩:=h.cons;have HS:Hid (SlOf w (.slice (some ⟨g,off,none⟩) (r.length+1) cap) (u0::us)):=hS;have HA:Hid (AllR n w (u0::us) (k::r)):=hA;have HA1:Hid (AllR n w us r):=hA1;have HL:Hid (us.length=r.length):=hlr;obtain⟨b0,rfl,hb0,ck0,cs0⟩:=r0.cellS;have R0:Hid (RepR ok n w _ k):=r0;have HLT:Hid (∀x∈(k::r),dF n x):=hLT;clear h hF hLT hS hA hA1 hlr r0
  have hkk:∃kk:List UInt8,w.cell? ⟨b0,0,none⟩=some (.string ⟨kk.toArray⟩)/\(kk==[110,97,109,101])=false:=by
   rcases R0.out.kinds with⟨_,_,rfl⟩ | ⟨_,rfl⟩ | ⟨s,rfl⟩ | ⟨_,rfl⟩
   ·exact⟨[110,117,109,98,101,114],ck0,by decide⟩
   ·exact⟨[116,114,117,116,104],ck0,by decide⟩
   ·exact absurd ⟨s,rfl⟩ hnm
   ·exact⟨[108,105,115,116],ck0,by decide⟩
  obtain⟨kk,ck1,hkk0⟩:=hkk;clear ck0 hnm;have e1:isName (.agg (k::r))=false:=rfl;have hn0:((r.length:Int)+1==0)=false:=by simp;omega
  go_enter func122,ntmps122
  go_wp2_with fail
  refine(aV ok (n+1) _ _ _ HR.out).mono ?_;rintro e w1 ⟨rfl,hB1⟩;obtain⟨q1,_⟩:=bP hB1;have HB1:Hid (Below w.heap.size w w1):=hB1;have hsz:=hB1.size;clear hB1;go_wp2_with fail;refine(cI n HF.out _ _ _ (k::r) (HS.out.later HB1.out) (HA.out.later HB1.out) (by simpa using hlen) HLT.out).mono ?_;rintro e w5 ⟨hB5,hcase⟩;have HB5:Hid (Below w.heap.size w w5):=HB1.out.trans (hB5.mono hsz);have hsz5:=HB5.out.size;rcases hcase with⟨gs,rv,fs,hfs,rfl,hrow,_,_,mr,hkids⟩ | ⟨hfs,rv,rfl⟩
  ·have HE:Hid (formOf (n+1) (.agg (k::r))=some (mkF .call [] .nil gs [])):=HK.out.trans (by rw [hfs];rfl);have HU:=(show Hid (∀o2,o2=Obj.cells #[byV (fkS .call),byV [],.pointer none,rv,.slice none 0 0,byV [],.int .i64 0,byV []] TFo (0,0)->RepU false (mr+1) (w5.alloc o2) w.heap.size (w5.alloc o2).heap.size (.pointer (some ⟨w5.heap.size,0,none⟩)) (mkF .call [] .nil gs [])) from fun o2 ho=>fS hsz hB5.size hrow hkids (by simp) (by show 1<=_;have:=hkids.1;have:=hrow.1;simp at this;omega) (by have:=hkids.1;have:=hrow.1;simp at this;omega) ho)
   have hfl:fs.length=(k::r).length:=by have:=hrow.1;omega
   obtain⟨aor,capr,rfl,_⟩:=bC hrow;clear hB5 hfs hrow hkids;go_wp2_with fail;go_ret;exact⟨HB5.out.alloc hsz5 _,.inl ⟨_,_,HE.out,rfl,mr+1,HU.out _ (by rw [hfl];rfl)⟩⟩
  ·have HE:Hid (formOf (n+1) (.agg (k::r))=none):=HK.out.trans (by rw [hfs];rfl);clear hB5 hfs;go_wp2_with fail;go_ret;exact⟨HB5.out,.inr ⟨HE.out,rfl⟩⟩
end
end Go.Proofs.YtkgbdddkcjpgfaaGreatDoor
