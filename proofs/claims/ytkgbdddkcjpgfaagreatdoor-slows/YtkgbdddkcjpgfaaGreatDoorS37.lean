import Derived.Test.YtkgbdddkcjpgfaaGreatDoorS33
import Derived.Test.YtkgbdddkcjpgfaaGreatDoorS32
import Derived.Test.YtkgbdddkcjpgfaaGreatDoorS34
namespace Go.Proofs.YtkgbdddkcjpgfaaGreatDoor
set_option maxHeartbeats 4000000
set_option maxRecDepth 100000
open Go.Proofs.Tryz
open Pl (PV PW PS PFr SR goOn)
section
open Go.RowKit
variable {M:Nat->Prop} {w:World}
theorem nZ(l:List PV):(l.flatMap cZ).length=l.length*3:=by
 induction l with
 | nil=>rfl
 | cons x l ih=>simp only [List.flatMap_cons,List.length_append,ih,cZ,List.length_cons,List.length_nil];omega
theorem xZ(w:World)(wb xb:Nat)(M:Nat->Prop)(W:PW)(S:PS)(fr:PFr)(fv gv ev:Value)(uo:Option Addr)(n0:Int)(hW:RW w wb M W)(hS:RS M w xb S)(hf:RF w fv fr.form)(hg:GotAt M w gv fr.got)(he:EnvAt M w ev fr.env)(hl:S.frames.length<=1000000000) :Calls prog 90 #[.pointer (some ⟨xb,0,none⟩),.agg #[fv,gv,.int .i64 fr.pos,ev,.pointer uo,.int .i64 n0]] w fun e w'=>e=.returned (.tuple #[])/\RW w' wb M W/\RS M w' xb (S.push fr)/\Stp (Mx M xb) w (Mx M xb) w'/\Kp M w M w':=by obtain⟨fv0,ev0,c0,c1,c2,frv,hb,h1,h2,h3⟩:=hS;obtain⟨b,_,_,_,_,_,_,_,rfl,_⟩:=hf.open_;obtain⟨ga,gcap,rfl,_⟩:=hg.shape;obtain⟨ea,ecap,rfl,_⟩:=he.shape;refine(lI M w xb fv0 ev0 c0 c1 c2 frv S.frames _ ga ea uo _ _ _ _ _ n0 hb h3 hl).mono ?_;rintro e w' ⟨rfl,hgr,hb',hn⟩;have hk:Kp M w M w':=eV hgr hb eC.2.2.2.2.2.2 (by decide) (by decide);refine⟨rfl,hW.grown hgr hb eC,⟨fv0,ev0,c0,c1,c2,_,hb',h1.keep hk.im,h2.kp hk (.inl rfl),?_⟩,bV hgr,hk⟩;exact⟨w.heap.size,_,_,_,_,rfl,hn,hf.keep hk.im,hg.kp hk (.inr rfl),he.kp hk (.inl rfl),FrAt.kp hk _ _ h3⟩
theorem wB(w:World):Kp M w M w.drew.drew:=⟨fun _ _ _ _ h=>h,fun _ _ _ _ hm h=>⟨h,hm⟩⟩
theorem z6{w':World}(h:Below w.heap.size w w'):Kp M w M w':=⟨fun k _ _ _ hb=>(h.block k (aB hb)).trans hb,fun k _ _ _ hm hb=>⟨(h.block k (aB hb)).trans hb,hm⟩⟩
theorem got_own{base g cap n:Nat}{l:List PV}(h:w.ownsRow base TV 3 (.slice (some ⟨g,0,none⟩) n cap) n (l.flatMap cZ))(hl:l.length=n)(hm:¬M g):GotAt M w (.slice (some ⟨g,0,none⟩) n cap) l:=by show Sl _ _ _ _ _ _ _;rw [hl];obtain⟨s0,ao,c,e1,e2,e3⟩:=gT (⟨h.1,h.2.imp id (fun⟨g,cap,cur,a,_,c⟩=>⟨g,cap,cur,a,Nat.zero_le _,c⟩)⟩:w.ownsRow 0 TV 3 (.slice (some ⟨g,0,none⟩) n cap) n (l.flatMap cZ));refine⟨s0,ao,c,e1,e2,e3.imp id ?_⟩;rintro⟨g2,off,cur,rfl,_,hg,hc⟩;simp only [Value.slice.injEq,Option.some.injEq,Addr.mk.injEq,and_true] at e1;obtain⟨⟨rfl,rfl⟩,_⟩:=e1;exact⟨g,0,cur,rfl,hm,hg,hc⟩
theorem aAC{g cap:Nat}{v:PV}{l:List PV}(h:GotAt M w (.slice (some ⟨g,0,none⟩) (l.length+1) cap) (v::l))(ao:Option Addr)(m c:Nat)(hm:m=l.length)(hc:l.length<=c)(ha:m≠0->ao=some ⟨g,3,none⟩):GotAt M w (.slice ao m c) l:=by
 subst hm;obtain⟨_,ao',cap',e,_,h3⟩:=h;simp only [Value.slice.injEq] at e;obtain⟨rfl,_,rfl⟩:=e;refine⟨nZ l,ao,c,rfl,hc,?_⟩;by_cases hz:l.length=0
 ·exact .inl hz
 ·right;obtain rfl:=ha hz;rcases h3 with h3 | ⟨g2,off,cur,e2,hm2,hg,hcell⟩
  ·simp at h3
  ·simp only [Option.some.injEq,Addr.mk.injEq,and_true] at e2;obtain⟨rfl,rfl⟩:=e2;refine⟨g,3,cur,rfl,hm2,hg,fun i u hu=>?_⟩;have:=hcell (3+i) u (by simp only [List.flatMap_cons,cZ,List.cons_append,List.nil_append];rw [show 3+i=i+1+1+1 from by omega];simpa using hu)
   rwa [Nat.zero_add] at this
theorem kE(hI:ItoaSaid)(w:World)(wb xb:Nat)(M:Nat->Prop)(W:PW)(S:PS)(fr:PFr)(rest:List PFr)(hf:S.form=none)(hr:S.frames=fr::rest)(hk:fr.form.k=.call)(hW:RW w wb M W)(hS:RS M w xb S)(hG:Gs w (Mx M xb))(hgot:fr.got.length+1=fr.pos)(hpos:fr.pos<=fr.form.ks.length)(hfr:rest.length<=100000000)(hv:WfV W S.val)(hvs:∀v∈fr.got,WfV W v)(hP:WfP W)(hB:Bd W) :Calls prog 87 #[.pointer (some ⟨wb,0,none⟩),.pointer (some ⟨xb,0,none⟩)] w fun e w'=>TakenPost M w wb xb W S e w':=by
 obtain⟨i0,hi0,hz0,hz1,hz2⟩:=info_parts Tryz.infoV;have HR0:Hid (Pl.taken W S=if fr.pos=fr.form.ks.length then(match fr.got++[S.val] with | []=>⟨9,W,{S with frames:=rest}⟩ | g::args=>Pl.apply W {S with frames:=rest} g args) else⟨0,W,(({S with frames:=rest}:PS).push {fr with got:=fr.got++[S.val],pos:=fr.pos+1}).work fr.form.ks[fr.pos]? fr.env⟩):=show Pl.taken W S=_ from by unfold Pl.taken;rw [hr];dsimp only;rw [hk];rfl
 have HGs:Hid (Gs w (Mx M xb)):=hG;have HP:Hid (WfP W):=hP;have HBd:Hid (Bd W):=hB
 have HVs:Hid (∀v∈fr.got++[S.val],WfV W v):=fun v h=>by
  rcases List.mem_append.1 h with h | h
  ·exact hvs v h
  ·obtain rfl:v=S.val:=by simpa using h
   exact hv
 have HMl:Hid (∀k,M k->k<w.heap.size):=fun k hk=>hW.lt hk;have HI:Hid ItoaSaid:=hI;have HW:Hid (RW w wb M W):=hW;obtain⟨fv0,ev0,c0,c1,c2,frv,hxb,s1,s2,s3⟩:=hS;simp only [StV,hf] at s1;obtain⟨rfl,hval⟩:=s1;simp only [cZ,List.cons.injEq,and_true] at hval;obtain⟨rfl,rfl,rfl⟩:=hval;rw [hr] at s3;obtain⟨fb,fv,gv,ev,up,rfl,hfb,hF,hGo,hEn,hUp⟩:=s3;obtain⟨b,dv,kv,nv,d0,d1,d2,us,rfl,hb,hkr,hks,hnr,hcv,hsh,hkl,hnl⟩:=hF.open_;obtain⟨po,rfl⟩:=hUp.ptr;obtain⟨ea,ecap,rfl,hec⟩:=hEn.shape;obtain⟨ga,gcap,rfl,hgc⟩:=hGo.shape;have HF:Hid (RF w (.pointer (some ⟨b,0,none⟩)) fr.form):=hF;have HEv:Hid (EnvAt M w (.slice ea fr.env.length ecap) fr.env):=hEn;have HGo:Hid (GotAt M w (.slice ga fr.got.length gcap) fr.got):=hGo;have hxl:=aB hxb;have x0:w.cell? ⟨xb,0,none⟩=some (.pointer none):=aA hxb 0;have x2:w.cell? ⟨xb,2,none⟩=some (.string ⟨(vK S.val).toArray⟩):=aA hxb 2;have x3:w.cell? ⟨xb,3,none⟩=some (.int .i64 (vN S.val)):=aA hxb 3;have x4:w.cell? ⟨xb,4,none⟩=some (.string ⟨(vS S.val).toArray⟩):=aA hxb 4;have x5:w.cell? ⟨xb,5,none⟩=some (.pointer (some ⟨fb,0,none⟩)):=aA hxb 5;have y0:w.cell? ⟨fb,0,none⟩=some (.pointer (some ⟨b,0,none⟩)):=aA hfb 0;have y4:w.cell? ⟨fb,4,none⟩=some (.pointer po):=aA hfb 4;have g5:∀o:Obj,(w.alloc o).frozen? ⟨xb,5,none⟩=false:=fun o=>aF ((Below.heap_alloc w o xb hxl).trans hxb) 5;have hfl:=aB hfb;have hbl:=aB hb;have qA:∀(o:Obj)(k off:Nat),k<w.heap.size->(w.alloc o).cell? ⟨k,off,none⟩=w.cell? ⟨k,off,none⟩:=fun o k off hk=>((Below.refl _ _).alloc (Nat.le_refl _) o).cell (p:=⟨k,off,none⟩) hk;rw [hk] at hb;have b0:w.cell? ⟨b,0,none⟩=some (.string ⟨#[99,97,108,108]⟩):=aA hb 0;have HTk:=(show Hid (Tk w _ wb xb M W S rest) from Tk.mk_ (rest:=rest) hW hxb po (by unfold StV;rw [hf];exact⟨rfl,rfl⟩) s2 hUp)
 have HFb:Hid (w.heap[fb]?=some (.cells #[.pointer (some ⟨b,0,none⟩),.slice ga fr.got.length gcap,.int .i64 fr.pos,.slice ea fr.env.length ecap,.pointer po,.int .i64 (rest.length+1:Nat)] TFr (0,0))):=hfb;have HHb:Hid (w.heap[b]?=some (.cells #[byV (fkS .call),byV fr.form.nm,dv,kv,nv,d0,d1,d2] TFo (0,0))):=hb;rw [show Pl.FK.call=fr.form.k from hk.symm] at HHb;have HKr:Hid (w.ownsRow 0 TFP 1 kv fr.form.ks.length us):=hkr;have HKs:Hid _:=hks;have hgl:fr.got.length<=1000:=by omega
 obtain⟨ka,kcap,rfl,hkc⟩:=dN hkr;have HGt:Hid (fr.got.length+1=fr.pos):=hgot;clear hf hr hk hW hxb s2 hUp hfb hF hGo hEn hb hkr hks hnr hcv hsh hnl hG hP hB hv hvs hI hgot;unfold byV at HTk;generalize hkk:vK S.val=kk at *;generalize hnn:vN S.val=nn at *;generalize hss:vS S.val=ss at *;have HKK:=(show Hid (vK S.val=kk/\vN S.val=nn/\vS S.val=ss) from⟨hkk,hnn,hss⟩)
 clear hkk hnn hss;go_enter func87,ntmps87
 go_upto_region 7 with fail
 generalize (w.setCell ⟨xb,5,none⟩ (.pointer po)).alloc (.cells #[.string ⟨kk.toArray⟩,.int .i64 nn,.string ⟨ss.toArray⟩] 154)=wx at *;have v0:wx.cell? ⟨w.heap.size,0,none⟩=some (.string ⟨kk.toArray⟩):=by rw [<- HKK.out.1];exact aA HTk.out.box 0
 have v1:wx.cell? ⟨w.heap.size,1,none⟩=some (.int .i64 nn):=by rw [<- HKK.out.2.1];exact aA HTk.out.box 1
 have v2:wx.cell? ⟨w.heap.size,2,none⟩=some (.string ⟨ss.toArray⟩):=by rw [<- HKK.out.2.2];exact aA HTk.out.box 2
 clear x0 x2 x3 x4 x5 y0 y4 g5 qA b0;have n1:wx.cell? ⟨fb,1,none⟩=some (.slice ga fr.got.length gcap):=aA (HTk.out.kp.im _ _ _ (.inr (.inr (.inr (.inr (.inr rfl))))) HFb.out) 1;have HGx:Hid (GotAt M wx (.slice ga fr.got.length gcap) fr.got):=HGo.out.kp HTk.out.kp (.inr rfl);have hszx:w.heap.size<=wx.heap.size:=HTk.out.stp.size;have hbxl:w.heap.size<wx.heap.size:=World.block_lt_of_cell? _ _ v0
 go_cut [10] (fun gotv wy=>Hid (wy.ownsRow wx.heap.size TV 3 gotv fr.got.length (fr.got.flatMap cZ))/\Hid (Below wx.heap.size wx wy))
 case first =>
  by_cases hz:fr.got.length=0
  ·have HZ:Hid (fr.got=[]):=List.eq_nil_of_length_eq_zero hz;have n1':wx.cell? ⟨fb,1,none⟩=some (.slice ga 0 gcap):=by rw [n1,hz]
   clear n1 hz;go_wp2_with (first | (at_builtin;refine dG rfl _ _ 93 rfl 154 i0 underlying93 hi0 ga gcap rfl rfl ?_))
   go_meet
   exact⟨by rw [HZ.out];exact World.ownsRow_nil _ _ _ _,Below.refl _ _⟩
  ·obtain⟨ge,oe,rfl,hge,_,hce⟩:=Sl.cell HGx.out (by omega);have hce':∀(j:Nat)(u:Value),(fr.got.flatMap cZ)[j]?=some u->wx.cell? ((⟨ge,oe,none⟩:Addr).add j)=some u:=fun j u hu=>by rw [Addr.add_lit];exact hce j u hu
   have HCe:Hid _:=hce';clear hce hce';go_wp2_with (first | (at_builtin;refine wpList_append_lies _ rfl _ _ 93 rfl wx.heap.size 154 i0 _ 3 40 underlying93 hi0 hz0 hz1 hz2 rfl (by decide) (.slice none 0 0) 0 [] rfl (World.ownsRow_nil _ _ _ _) ⟨ge,oe,none⟩ fr.got.length gcap (fr.got.flatMap cZ) rfl (nZ fr.got) HCe.out (by intro u hu;obtain⟨bb,_,hb2⟩:=List.mem_flatMap.1 hu;simp only [cZ,List.mem_cons,List.not_mem_nil,or_false] at hb2;rcases hb2 with rfl | rfl | rfl<;>rfl) (by omega) (by unfold maxLen;omega) (by omega) (Nat.le_refl _) wx.heap.size rfl ?_;intro g3 cap3 w3 hown3 hgrow3 hat3 hlt3))
   go_meet
   refine⟨show World.ownsRow _ _ TV _ _ _ _ from(by have h:=hown3;simp only [Nat.zero_add,List.nil_append] at h;exact h),cS hgrow3⟩
 case rest =>
  obtain⟨HRow,HBy⟩:=hcut;have v0':=(HBy.out.cell (p:=⟨w.heap.size,0,none⟩) hbxl).trans v0;have v1':=(HBy.out.cell (p:=⟨w.heap.size,1,none⟩) hbxl).trans v1;have v2':=(HBy.out.cell (p:=⟨w.heap.size,2,none⟩) hbxl).trans v2;have hszy:=HBy.out.size;clear n1 v0 v1 v2
  go_upto_region 8 with fail
  go_cut [10] (fun gotv wy=>∃(g:Nat)(cap:Nat),gotv=.slice (some ⟨g,0,none⟩) (fr.got.length+1) cap/\fr.got.length+1<=cap/\Hid (wy.ownsRow wx.heap.size TV 3 (.slice (some ⟨g,0,none⟩) (fr.got.length+1) cap) (fr.got.length+1) ((fr.got++[S.val]).flatMap cZ))/\Hid (Below wx.heap.size wx wy))
  case first =>
   have hbA:∀o:Obj,(wc.alloc o).cell? ⟨w.heap.size,0,none⟩=wc.cell? ⟨w.heap.size,0,none⟩:=fun o=>((Below.refl _ _).alloc (Nat.le_refl _) o).cell (p:=⟨w.heap.size,0,none⟩) (by show w.heap.size<wc.heap.size;omega);go_wp2_with (first | (at_builtin;refine wpList_append_lies _ rfl _ _ 93 rfl wx.heap.size 154 i0 _ 3 40 underlying93 hi0 hz0 hz1 hz2 rfl (by decide) _ fr.got.length (fr.got.flatMap cZ) rfl (HRow.out.alloc _) ⟨wc.heap.size,0,none⟩ 1 1 [.string ⟨kk.toArray⟩,.int .i64 nn,.string ⟨ss.toArray⟩] rfl rfl (World.news_of_block (cs:=#[.string ⟨kk.toArray⟩,.int .i64 nn,.string ⟨ss.toArray⟩]) (t:=154) (fr:=(0,0)) (heap_alloc_new wc _)) (by simp [Value.oneCell']) (by decide) (by unfold maxLen;omega) (by omega) (by simp;omega) (wc.heap.size+1) (by simp) ?_;intro g3 cap3 w3 hown3 hgrow3 hat3 hlt3))
   go_meet
   have hcp:fr.got.length+1<=cap3:=by obtain⟨ao,cp,e1,e2⟩:=dN hown3;simp only [Value.slice.injEq] at e1;obtain⟨_,_,rfl⟩:=e1;exact e2
   refine⟨g3,cap3,rfl,hcp,?_,(HBy.out.alloc hszy _).grown hgrow3 (by simp;omega) (fun j hj=>(HRow.out.lt j hj).1)⟩;have this:World.ownsRow w3 wx.heap.size TV 3 _ _ _:=hown3;show World.ownsRow _ _ TV _ _ _ _;rw [List.flatMap_append];have e1:[S.val].flatMap cZ=[.string ⟨kk.toArray⟩,.int .i64 nn,.string ⟨ss.toArray⟩]:=by rw [<- HKK.out.1,<-HKK.out.2.1,<-HKK.out.2.2];rfl
   rw [e1];exact this
  case rest =>
   obtain⟨g,gcp,rfl,hgcp,HRow2,HBy2⟩:=hcut;have HK2:Hid (Kp M w M wc):=HTk.out.kp.trans (z6 HBy2.out);have n2:wc.cell? ⟨fb,2,none⟩=some (.int .i64 fr.pos):=aA (HK2.out.im _ _ _ (.inr (.inr (.inr (.inr (.inr rfl))))) HFb.out) 2;have n4:wc.cell? ⟨b,3,none⟩=some (.slice ka fr.form.ks.length kcap):=aA (HK2.out.im _ _ _ (.inr (.inr (.inl rfl))) HHb.out) 3;have HW2:Hid (RW wc wb M W):=RW.later HTk.out.rw_ HBy2.out;have HS2:Hid (RS M wc xb {S with frames:=rest}):=HTk.out.rs.later HTk.out.rw_ HBy2.out;have HT2:Hid (Stp (Mx M xb) w (Mx M xb) wc):=HTk.out.stp.trans ((Stp.of_below HBy2.out).mx xb);have hgm:¬M g:=fun hm=>by have:=HMl.out g hm;have:=(HRow2.out.lt g rfl).1;omega
   have HGot:Hid (GotAt M wc (.slice (some ⟨g,0,none⟩) (fr.got.length+1) gcp) (fr.got++[S.val])):=got_own HRow2.out (by simp) hgm;have hgsz:=(HRow2.out.lt g rfl).2;clear v0' v1' v2' hgm
   go_upto_region 9 with fail
   go_cut [53] (fun b53 wy=>b53=.bool ((fr.pos:Int)==(fr.form.ks.length:Int))/\wy=wc.drew)
   case first =>
    go_region
    all_goals
     go_wp2_with fail
     go_meet
     exact⟨rfl,rfl⟩
   case rest =>
    obtain⟨rfl,rfl⟩:=hcut;by_cases hp:fr.pos=fr.form.ks.length
    ·rw [if_pos hp] at HR0;have hpb:((fr.pos:Int)==(fr.form.ks.length:Int))=true:=by rw [beq_iff_eq];omega
     obtain⟨h0,args,hl⟩:∃h0 args,fr.got++[S.val]=h0::args:=by
      cases hgg:fr.got with
      | nil=>exact⟨_,_,rfl⟩
      | cons a r=>exact⟨a,r++[S.val],rfl⟩
     have hal:args.length=fr.got.length:=by have:=congrArg List.length hl;simp at this;omega
     have HR:Hid (Pl.taken W S=Pl.apply W {S with frames:=rest} h0 args):=show _=_ from by rw [HR0.out,hl]
     have hG2:=HGot.out;rw [hl,<-hal] at hG2;have HG2:Hid (GotAt M wc (.slice (some ⟨g,0,none⟩) (args.length+1) gcp) (h0::args)):=hG2;obtain⟨g',off',e',_,_,hcell⟩:=Sl.cell hG2 (by simp);simp only [Option.some.injEq,Addr.mk.injEq,and_true] at e';obtain⟨rfl,rfl⟩:=e';have k0:wc.cell? ⟨g,0,none⟩=some (.string ⟨(vK h0).toArray⟩):=hcell 0 _ rfl;have k1:wc.cell? ⟨g,1,none⟩=some (.int .i64 (vN h0)):=hcell 1 _ rfl;have k2:wc.cell? ⟨g,2,none⟩=some (.string ⟨(vS h0).toArray⟩):=hcell 2 _ rfl;have HAp:Hid (∀(ao:Option Addr)(m c:Nat),m=args.length->args.length<=c->(m≠0->ao=some ⟨g,3,none⟩)->Calls prog 131 #[.pointer (some ⟨wb,0,none⟩),.pointer (some ⟨xb,0,none⟩),.agg #[.string ⟨(vK h0).toArray⟩,.int .i64 (vN h0),.string ⟨(vS h0).toArray⟩],.slice ao m c] wc.drew.drew fun e w'=>Res M wc.drew.drew wb xb (Pl.apply W {S with frames:=rest} h0 args) e w'):=fun ao m c e1 e2 e3 =>uF HI.out wc.drew.drew wb xb M W {S with frames:=rest} h0 _ args (RW.later HW2.out ((Below.refl _ _).drew.drew)) (HS2.out.later HW2.out ((Below.refl _ _).drew.drew)) ((HGs.out.stp HT2.out).below ((Below.refl _ _).drew.drew)) ((aAC HG2.out ao m c e1 e2 e3).kp (wB wc) (.inr rfl)) (HVs.out h0 (by rw [hl];simp)) (fun v hv=>HVs.out v (by rw [hl];exact List.mem_cons_of_mem _ hv)) HP.out HBd.out (by omega);have HAl:Hid (args.length=fr.got.length):=hal;clear hG2 hcell hl HR0 hp hal;generalize vK h0=k0' at *;generalize vN h0=n0' at *;generalize vS h0=s0' at *;have HTd:Hid (Stp (Mx M xb) w (Mx M xb) wc.drew.drew):=HT2.out.trans ((Stp.of_below ((Below.refl _ _).drew.drew)).mx xb);by_cases hc1:gcp=1
     ·subst hc1;have hn0:fr.got.length=0:=by omega
      have HN0:Hid (fr.got.length=0):=hn0;go_wp2_with fail;go_region_with (go_at_call 131;refine Calls.mono (HAp.out _ _ _ (by have:=HAl.out;have:=HN0.out;omega) (by have:=HAl.out;have:=HN0.out;omega) (fun h=>absurd (by have:=HN0.out;omega) h)) ?_;rintro e w5 ⟨rfl,hr2⟩)
      all_goals
       have HR2:Hid _:=hr2;clear hr2;go_wp2_with fail;go_ret;unfold TakenPost;rw [HR.out];obtain⟨M',y1,y2,y3⟩:=HR2.out;exact⟨rfl,M',y1,HTd.out.trans y2,y3⟩
     ·have hc2:gcp-1≠0:=by omega
      go_wp2_with fail
      go_region_with (go_at_call 131;refine Calls.mono (HAp.out _ _ _ (by have:=HAl.out;omega) (by have:=HAl.out;omega) (fun _=>rfl)) ?_;rintro e w5 ⟨rfl,hr2⟩)
      all_goals
       have HR2:Hid _:=hr2;clear hr2;go_wp2_with fail;go_ret;unfold TakenPost;rw [HR.out];obtain⟨M',y1,y2,y3⟩:=HR2.out;exact⟨rfl,M',y1,HTd.out.trans y2,y3⟩
    ·rw [if_neg hp] at HR0;have hpb:((fr.pos:Int)==(fr.form.ks.length:Int))=false:=by rw [beq_eq_false_iff_ne];omega
     have hplt:fr.pos<fr.form.ks.length:=by omega
     obtain⟨gk,ck,ob,body,e1,hck,hgk,⟨curk,hgkt⟩,e0,hbody,hRb⟩:=kid0 HKr.out HKs.out fr.pos hplt;simp only [Value.slice.injEq] at e1;obtain⟨rfl,_,rfl⟩:=e1;have HR:Hid (Pl.taken W S=⟨0,W,(({S with frames:=rest}:PS).push {fr with got:=fr.got++[S.val],pos:=fr.pos+1}).work (some body) fr.env⟩):=show _=_ from by rw [HR0.out,hbody]
     have HBo:Hid (RF w (.pointer (some ⟨ob,0,none⟩)) body):=hRb;have HGk:Hid (w.heap[gk]?=some (.cells curk TFP (0,0))):=hgkt;have HEo:Hid (w.cell? ⟨gk,fr.pos,none⟩=some (.pointer (some ⟨ob,0,none⟩))):=e0;have hwrap:IntKind.i64.wrap ((fr.pos:Int)+1)=(fr.pos:Int)+1:=IntWalk.i64_in _ (by omega);have hpi:(fr.pos:Int)<(fr.form.ks.length:Int):=by omega
     have HGt2:Hid (GotAt M wc.drew.drew (.slice (some ⟨g,0,none⟩) (fr.got.length+1) gcp) (fr.got++[S.val])):=HGot.out.kp (wB wc) (.inr rfl);have n3:wc.cell? ⟨fb,3,none⟩=some (.slice ea fr.env.length ecap):=aA (HK2.out.im _ _ _ (.inr (.inr (.inr (.inr (.inr rfl))))) HFb.out) 3;have HPu:Hid (Calls prog 90 #[.pointer (some ⟨xb,0,none⟩),.agg #[.pointer (some ⟨b,0,none⟩),.slice (some ⟨g,0,none⟩) (fr.got.length+1) gcp,.int .i64 ((fr.pos:Int)+1),.slice ea fr.env.length ecap,.pointer none,.int .i64 0]] wc.drew.drew fun e w'=>e=.returned (.tuple #[])/\RW w' wb M W/\RS M w' xb (({S with frames:=rest}:PS).push {fr with got:=fr.got++[S.val],pos:=fr.pos+1})/\Stp (Mx M xb) wc.drew.drew (Mx M xb) w'/\Kp M wc.drew.drew M w') :=xZ wc.drew.drew wb xb M W {S with frames:=rest} {fr with got:=fr.got++[S.val],pos:=fr.pos+1} _ _ _ none 0 (RW.later HW2.out ((Below.refl _ _).drew.drew)) (HS2.out.later HW2.out ((Below.refl _ _).drew.drew)) (HF.out.keep (HK2.out.trans (wB wc)).im) HGt2.out (HEv.out.kp (HK2.out.trans (wB wc)) (.inl rfl)) (by show rest.length<=_;omega);clear HR0 hp hbody hRb hgkt e0 hgk
     go_upto_region 11 with fail
     go_cut [] (fun wy=>Hid (RW wy wb M W)/\Hid (RS M wy xb (({S with frames:=rest}:PS).push {fr with got:=fr.got++[S.val],pos:=fr.pos+1}))/\Hid (Stp (Mx M xb) w (Mx M xb) wy)/\Hid (Kp M w M wy))
     case first =>
      go_region_with (go_at_call 90;refine Calls.mono HPu.out ?_;rintro e w1 ⟨rfl,h1,h2,h3,h4⟩)
      all_goals
       go_wp2_with fail
       go_meet
       exact⟨h1,h2,(HT2.out.trans ((Stp.of_below ((Below.refl _ _).drew.drew)).mx xb)).trans h3,(HK2.out.trans (wB wc)).trans h4⟩
     case rest =>
      obtain⟨HWx,HSx,HTx,HK3⟩:=hcut;clear n2 n3 n4 HPu;have HKs2:=HK3;have m2:=aA (HK3.out.im _ _ _ (.inr (.inr (.inr (.inr (.inr rfl))))) HFb.out) 2;have m3:=aA (HK3.out.im _ _ _ (.inr (.inr (.inr (.inr (.inr rfl))))) HFb.out) 3;have m4:=aA (HK3.out.im _ _ _ (.inr (.inr (.inl rfl))) HHb.out) 3;have m5:=(aA (HK3.out.im _ _ _ (.inr (.inr (.inr (.inl rfl)))) HGk.out) fr.pos).trans ((aA HGk.out fr.pos).symm.trans HEo.out);simp only [List.getElem?_toArray,List.getElem?_cons_succ,List.getElem?_cons_zero] at m2 m3 m4;have HBx:Hid (RF _ (.pointer (some ⟨ob,0,none⟩)) body):=HBo.out.keep HK3.out.im;have HEx:Hid (EnvAt M _ (.slice ea fr.env.length ecap) fr.env):=HEv.out.kp HK3.out (.inl rfl);go_wp2_with fail;go_region_with (go_at_call 91;refine(cP _ wb xb M W (({S with frames:=rest}:PS).push {fr with got:=fr.got++[S.val],pos:=fr.pos+1}) body fr.env _ _ (RW.later HWx.out (Below.refl _ _).drew) (RS.later (W:=W) (wb:=wb) HSx.out HWx.out (Below.refl _ _).drew) (HBx.out.keep (KeepI_drew _)) (HEx.out.stp (Stp.of_below (Below.refl _ _).drew))).mono ?_;rintro e w2 ⟨rfl,h1,h2,h3⟩)
      all_goals
       have H1:Hid (RW w2 wb M W):=h1;have H2:Hid (RS M w2 xb ((({S with frames:=rest}:PS).push {fr with got:=fr.got++[S.val],pos:=fr.pos+1}).work (some body) fr.env)):=h2;have H3:Hid _:=h3;clear h1 h2 h3;go_wp2_with fail;go_ret;unfold TakenPost;rw [HR.out];exact⟨rfl,M,H1.out,HTx.out.trans (((Stp.of_below (Below.refl _ _).drew).mx xb).trans H3.out),fun _=>H2.out⟩
structure FrOk(W:PW)(fr:PFr):Prop where
 env:WfE W fr.env
 envL:fr.env.length<=100000000
 kind:fr.form.k=.iff\/fr.form.k=.set\/fr.form.k=.define\/fr.form.k=.begin\/fr.form.k=.call
 begin_:fr.form.k=.begin->fr.pos<fr.form.ks.length
 call:fr.form.k=.call->fr.got.length+1=fr.pos/\fr.pos<=fr.form.ks.length/\∀v∈fr.got,WfV W v
structure StOk(W:PW)(S:PS):Prop where
 P:WfP W
 B:Bd W
 G:WfG W
 E:WfS W S
 V:S.form=none->WfV W S.val
 Fr:∀fr rest,S.frames=fr::rest->FrOk W fr
theorem uA(hI:ItoaSaid)(w:World)(wb xb:Nat)(M:Nat->Prop)(W:PW)(S:PS)(fr:PFr)(rest:List PFr)(hf:S.form=none)(hr:S.frames=fr::rest)(hW:RW w wb M W)(hS:RS M w xb S)(hG:Gs w (Mx M xb))(hO:StOk W S) :Calls prog 87 #[.pointer (some ⟨wb,0,none⟩),.pointer (some ⟨xb,0,none⟩)] w fun e w'=>TakenPost M w wb xb W S e w':=by
 have hfr:=hO.Fr fr rest hr;have hrl:rest.length<=100000000:=by have:=hO.E.fr;rw [hr] at this;simp at this;omega
 rcases hfr.kind with h | h | h | h | h
 ·exact mX w wb xb M W S fr rest hf hr h hW hS
 ·exact lG w wb xb M W S fr rest hf hr h hW hS hO.G hfr.env hfr.envL
 ·exact iD w wb xb M W S fr rest hf hr h hW hS hO.G
 ·exact i6 w wb xb M W S fr rest hf hr h hW hS (hfr.begin_ h) hrl
 ·obtain⟨h1,h2,h3⟩:=hfr.call h;exact kE hI w wb xb M W S fr rest hf hr h hW hS hG h1 h2 hrl (hO.V hf) h3 hO.P hO.B
theorem xT(hI:ItoaSaid)(w:World)(wb xb:Nat)(M:Nat->Prop)(W:PW)(S:PS)(he:S.ended=false)(hW:RW w wb M W)(hS:RS M w xb S)(hG:Gs w (Mx M xb))(hO:StOk W S) :Calls prog 54 #[.pointer (some ⟨wb,0,none⟩),.pointer (some ⟨xb,0,none⟩)] w fun e w'=>StepPost M w wb xb W S e w':=by
 cases hf:S.form with
 | some f =>
  cases hk:f.k with
  | const=>exact kF w wb xb M W S f hf hk hW hS
  | name=>exact lH w wb xb M W S f hf hk hW hS hO.G hO.E
  | lambda=>exact mY w wb xb M W S f hf hk hW hS hO.G
  | begin=>exact kG w wb xb M W S f hf hk hW hS hO.E
  | iff=>exact cR w wb xb M W S f hf (.inl hk) hW hS hO.E
  | set=>exact cR w wb xb M W S f hf (.inr (.inl hk)) hW hS hO.E
  | define=>exact cR w wb xb M W S f hf (.inr (.inr (.inl hk))) hW hS hO.E
  | call=>exact cR w wb xb M W S f hf (.inr (.inr (.inr hk))) hW hS hO.E
 | none =>
  cases hr:S.frames with
  | nil=>simp [Pl.PS.ended,hf,hr] at he
  | cons fr rest =>
   have HT:Hid _:=uA hI w wb xb M W S fr rest hf hr hW hS hG hO;have HR:Hid (Pl.step W S=Pl.taken W S):=show Pl.step W S=_ from by unfold Pl.step;rw [hf]
   obtain⟨fv,ev,c0,c1,c2,frv,hxb,s1,s2,s3⟩:=hS;simp only [StV,hf] at s1;obtain⟨rfl,_⟩:=s1;have x0:w.cell? ⟨xb,0,none⟩=some (.pointer none):=aA hxb 0;clear hxb s2 s3 hf hr he hW hG hO;go_enter func54,ntmps54;go_wp2_with fail;refine Calls.mono HT.out ?_;rintro e w1 ⟨rfl,h1⟩;have H1:Hid _:=h1;clear h1;go_wp2_with fail;go_ret;unfold StepPost;rw [HR.out];exact⟨rfl,H1.out⟩
def ResF(M:Nat->Prop)(w:World)(wb xb:Nat)(r:SR)(e:Ending)(w':World):Prop :=e=.returned (.int .i64 (r.e:Int))/\∃M',RW w' wb M' r.W/\Stp (Mx M xb) w (Mx M' xb) w'/\(r.e=0\/r.e=7->RS M' w' xb r.S)
def Lasts(Inv:Nat->PW->PS->Prop):Prop:=∀n W S,Inv (n+1) W S->S.ended=false->StOk W S/\(Pl.step W S).e≠7/\((Pl.step W S).e=0->Inv n (Pl.step W S).W (Pl.step W S).S)
theorem xW(hI:ItoaSaid)(Inv:Nat->PW->PS->Prop)(hL:Lasts Inv)(w:World)(wb xb:Nat)(M:Nat->Prop)(W:PW)(S:PS)(n:Nat)(hn:n<=1000000000)(h:Inv n W S)(hW:RW w wb M W)(hS:RS M w xb S)(hG:Gs w (Mx M xb)) :Calls prog 56 #[.pointer (some ⟨wb,0,none⟩),.pointer (some ⟨xb,0,none⟩),.int .i64 n] w fun e w'=>ResF M w wb xb (goOn n W S) e w':=by
 have HI:Hid ItoaSaid:=hI;have HL:Hid (Lasts Inv):=hL;have HW:Hid (RW w wb M W):=hW;have HS:Hid (RS M w xb S):=hS;have HG:Hid (Gs w (Mx M xb)):=hG;have HN:Hid (Inv n W S):=h;clear hI hL hW hS hG h;go_enter func56,ntmps56;go_wp2_with fail
 go_loopw [7,8,9] (fun i _ _ wr=>∃(k:Nat)(Wk:PW)(Sk:PS)(Mk:Nat->Prop),k<=n/\i=.int .i64 k/\Hid (RW wr wb Mk Wk)/\Hid (RS Mk wr xb Sk)/\Hid (Gs wr (Mx Mk xb))/\Hid (Stp (Mx M xb) w (Mx Mk xb) wr)/\Hid (Inv (n-k) Wk Sk)/\Hid (goOn n W S=goOn (n-k) Wk Sk)) (fun i _ _ _=>n-(intOf i).toNat)
 case atStart=>exact⟨0,W,S,M,Nat.zero_le _,rfl,HW,HS,HG,Stp.refl _ _,HN,rfl⟩
 case round =>
  obtain⟨k,Wk,Sk,Mk,hk,rfl,HWk,HSk,HGk,HTk,HNk,HEk⟩:=hrel;go_wp2_with fail;refine(uD Mk _ xb Sk HSk.out).mono ?_;rintro e w' ⟨rfl,rfl⟩
  cases he:Sk.ended with
  | true =>
   have HE:Hid (goOn n W S=⟨0,Wk,Sk⟩):=show _=_ from by
    rw [HEk.out]
    cases n-k<;>simp [goOn,he]
   clear he;go_wp2_with fail;go_ret;rw [HE.out];exact⟨rfl,Mk,HWk.out,HTk.out,fun _=>HSk.out⟩
  | false =>
   by_cases hkn:k=n
   ·subst hkn;have HE:Hid (goOn k W S=⟨7,Wk,Sk⟩):=show _=_ from by rw [HEk.out,Nat.sub_self];simp [goOn,he]
    clear he;go_wp2_with fail;go_ret;rw [HE.out];exact⟨rfl,Mk,HWk.out,HTk.out,fun _=>HSk.out⟩
   ·obtain⟨m,hm⟩:∃m,n-k=m+1:=⟨n-k-1,by omega⟩
    have hNk:=HNk.out;rw [hm] at hNk;obtain⟨hO,h7,hNx⟩:=HL.out m Wk Sk hNk he;have HO:Hid (StOk Wk Sk):=hO;have HNx:Hid ((Pl.step Wk Sk).e=0->Inv m (Pl.step Wk Sk).W (Pl.step Wk Sk).S):=hNx;have H7:Hid ((Pl.step Wk Sk).e≠7):=h7;have HEn:Hid (Sk.ended=false):=he;have HE:Hid (goOn n W S=if(Pl.step Wk Sk).e=0 then goOn m (Pl.step Wk Sk).W (Pl.step Wk Sk).S else Pl.step Wk Sk):=show _=_ from by rw [HEk.out,hm];simp [goOn,he]
    have hnk:((k:Int)==(n:Int))=false:=by rw [beq_eq_false_iff_ne];omega
    have hmk:m=n-(k+1):=by omega
    have HMk:Hid (m=n-(k+1)):=hmk;clear hNk hO h7 hNx he hm hmk;go_wp2_with fail;refine(xT HI.out _ wb xb Mk Wk Sk HEn.out HWk.out HSk.out HGk.out HO.out).mono ?_;rintro e w2 ⟨rfl,M2,h1,h2,h3⟩;have H1:Hid (RW w2 wb M2 (Pl.step Wk Sk).W):=h1;have H2:Hid (Stp (Mx Mk xb) _ (Mx M2 xb) w2):=h2;have H3:Hid ((Pl.step Wk Sk).e=0->RS M2 w2 xb (Pl.step Wk Sk).S):=h3;clear h1 h2 h3;by_cases h0:(Pl.step Wk Sk).e=0
    ·have HE2:Hid (goOn n W S=goOn m (Pl.step Wk Sk).W (Pl.step Wk Sk).S):=show _=_ from by rw [HE.out,if_pos h0]
     have HS2:Hid (RS M2 w2 xb (Pl.step Wk Sk).S):=H3.out h0;have HN2:Hid (Inv m (Pl.step Wk Sk).W (Pl.step Wk Sk).S):=HNx.out h0;have h0i:(((Pl.step Wk Sk).e:Nat):Int)=0:=by rw [h0];rfl
     clear h0;go_wp2_with fail
     go_roundw
     case rel =>exact⟨k+1,_,_,M2,by omega,by go_num,H1,HS2,HGk.out.stp H2.out,HTk.out.trans H2.out,by rw [<- HMk.out];exact HN2,by rw [<- HMk.out];exact HE2⟩
     case measure=>simp [intOf];omega
    ·have HE2:Hid (goOn n W S=Pl.step Wk Sk):=show _=_ from by rw [HE.out,if_neg h0]
     have hb:((((Pl.step Wk Sk).e:Nat):Int)!=0)=true:=by simp;omega
     have H0:Hid (¬(Pl.step Wk Sk).e=0):=h0;clear h0;go_wp2_with fail;go_ret;rw [HE2.out];exact⟨rfl,M2,H1.out,HTk.out.trans H2.out,fun h=>by rcases h with h | h;exact absurd h H0.out;exact absurd h H7.out⟩
end
end Go.Proofs.YtkgbdddkcjpgfaaGreatDoor
