import Derived.Test.YtkgbdddkcjpgfaaGreatDoorS27
import Derived.Test.YtkgbdddkcjpgfaaGreatDoorS31
import Derived.Test.YtkgbdddkcjpgfaaGreatDoorS06
namespace Go.Proofs.YtkgbdddkcjpgfaaGreatDoor
set_option maxHeartbeats 8000000
set_option maxRecDepth 100000
open Go.Proofs.Tryz
open Pl (PW PS PF PFr Byt Env formOf isForm inW)
section
open Go.RowKit
theorem qJ(w:World)(wb xb:Nat)(M:Nat->Prop)(W:PW)(S:PS)(fr:PFr)(fv gv ev:Value)(uo:Option Addr)(n0:Int)(hW:RW w wb M W)(hS:RS M w xb S)(hf:RF w fv fr.form)(hg:GotAt M w gv fr.got)(he:EnvAt M w ev fr.env)(hl:S.frames.length<=1000000000) :Calls prog 90 #[.pointer (some ⟨xb,0,none⟩),.agg #[fv,gv,.int .i64 fr.pos,ev,.pointer uo,.int .i64 n0]] w fun e w'=>e=.returned (.tuple #[])/\RW w' wb M W/\RS M w' xb (S.push fr)/\Stp (Mx M xb) w (Mx M xb) w'/\KeepI w w':=by obtain⟨fv0,ev0,c0,c1,c2,frv,hb,h1,h2,h3⟩:=hS;obtain⟨b,_,_,_,_,_,_,_,rfl,_⟩:=hf.open_;obtain⟨ga,gcap,rfl,_⟩:=hg.shape;obtain⟨ea,ecap,rfl,_⟩:=he.shape;refine(lI M w xb fv0 ev0 c0 c1 c2 frv S.frames _ ga ea uo _ _ _ _ _ n0 hb h3 hl).mono ?_;rintro e w' ⟨rfl,hgr,hb',hn⟩;have hk:Kp M w M w':=eV hgr hb eC.2.2.2.2.2.2 (by decide) (by decide);refine⟨rfl,hW.grown hgr hb eC,⟨fv0,ev0,c0,c1,c2,_,hb',h1.keep hk.im,h2.kp hk (.inl rfl),?_⟩,bV hgr,hk.im⟩;exact⟨w.heap.size,_,_,_,_,rfl,hn,hf.keep hk.im,hg.kp hk (.inr rfl),he.kp hk (.inl rfl),FrAt.kp hk _ _ h3⟩
theorem pQ(M:Nat->Prop)(w:World):GotAt M w (.slice none 0 0) []:=⟨rfl,none,0,rfl,Nat.le_refl _,.inl rfl⟩
def StepPost(M:Nat->Prop)(w:World)(wb xb:Nat)(W:PW)(S:PS):Ending->World->Prop:=Res M w wb xb (Pl.step W S)
structure WfS(W:PW)(S:PS):Prop where
 env:WfE W S.env
 envL:S.env.length<=100000000
 fr:S.frames.length<=100000000
structure WfG(W:PW):Prop where
 gl:WfE W W.globals
 glL:W.globals.length<=100000000
 plL:W.places.length<=100000000
 prL:W.procs.length<=100000000
theorem kF(w:World)(wb xb:Nat)(M:Nat->Prop)(W:PW)(S:PS)(f:PF)(hf:S.form=some f)(hk:f.k=.const)(hW:RW w wb M W)(hS:RS M w xb S) :Calls prog 54 #[.pointer (some ⟨wb,0,none⟩),.pointer (some ⟨xb,0,none⟩)] w fun e w'=>StepPost M w wb xb W S e w':=by
 have HW:Hid (RW w wb M W):=hW;have HS:Hid (RS M w xb S):=hS;have HR:Hid (Pl.step W S=⟨0,W,S.give f.v⟩):=show Pl.step W S=_ from by unfold Pl.step;rw [hf];dsimp only;rw [hk]
 obtain⟨fv,ev,c0,c1,c2,frv,hxb,s1,s2,s3⟩:=hS;simp only [StV,hf] at s1;obtain⟨b,dv,kv,nv,d0,d1,d2,us,rfl,hb,hkr,hks,hnr,hcv,hsh,hkl,hnl⟩:=s1.open_;have HF:Hid (RF w (.pointer (some ⟨b,0,none⟩)) f):=s1;have HEv:Hid (EnvAt M w ev S.env):=s2;obtain⟨ea,ecap,rfl,hec⟩:=s2.shape;have x0:w.cell? ⟨xb,0,none⟩=some (.pointer (some ⟨b,0,none⟩)):=aA hxb 0;have x1:w.cell? ⟨xb,1,none⟩=some (.slice ea S.env.length ecap):=aA hxb 1;rw [hk] at hb;have hv:=hcv hk;simp only [cZ,List.cons.injEq,and_true] at hv;obtain⟨rfl,rfl,rfl⟩:=hv;have b0:w.cell? ⟨b,0,none⟩=some (.string ⟨#[99,111,110,115,116]⟩):=aA hb 0;have b5:w.cell? ⟨b,5,none⟩=some (.string ⟨(vK f.v).toArray⟩):=aA hb 5;have b6:w.cell? ⟨b,6,none⟩=some (.int .i64 (vN f.v)):=aA hb 6;have b7:w.cell? ⟨b,7,none⟩=some (.string ⟨(vS f.v).toArray⟩):=aA hb 7;have HNM:Hid (bT f.v=.agg #[.string ⟨(vK f.v).toArray⟩,.int .i64 (vN f.v),.string ⟨(vS f.v).toArray⟩]):=rfl;clear hf hk hW hxb s1 s2 s3 hb hkr hks hnr hcv hsh hkl hnl;generalize vK f.v=kk at *;generalize vN f.v=nn at *;generalize vS f.v=ss at *;go_enter func54,ntmps54;go_wp2_with fail;rw [<- HNM.out];refine(aT _ wb xb M W S f.v HW.out HS.out).mono ?_;rintro e w2 ⟨rfl,h1,h2,h3⟩;have H1:Hid (RW w2 wb M W):=h1;have H2:Hid (RS M w2 xb (S.give f.v)):=h2;have H3:Hid _:=h3;clear h1 h2 h3;go_wp2_with fail;go_ret;unfold StepPost;rw [HR.out];exact⟨rfl,M,H1.out,H3.out,fun _=>H2.out⟩
theorem oL{W:PW}{env:Env}{s:Byt}{k:Nat}(h1:WfE W env)(h2:WfE W W.globals)(h:Pl.seek W env s=some k):k<W.places.length:=by
 unfold Pl.seek at h
 cases hf:Pl.find env s with
 | some j =>rw [hf] at h;obtain rfl:=Option.some.inj h;obtain⟨b,hb,rfl⟩:=mC _ _ _ hf;exact h1 b hb
 | none =>rw [hf] at h;obtain⟨b,hb,rfl⟩:=mC _ _ _ h;exact h2 b hb
theorem lH(w:World)(wb xb:Nat)(M:Nat->Prop)(W:PW)(S:PS)(f:PF)(hf:S.form=some f)(hk:f.k=.name)(hW:RW w wb M W)(hS:RS M w xb S)(hG:WfG W)(hE:WfS W S) :Calls prog 54 #[.pointer (some ⟨wb,0,none⟩),.pointer (some ⟨xb,0,none⟩)] w fun e w'=>StepPost M w wb xb W S e w':=by
 have HW:Hid (RW w wb M W):=hW;have HS:Hid (RS M w xb S):=hS;have HR:Hid (Pl.step W S=match Pl.seek W S.env f.nm with | some k=>⟨0,W,S.give (W.places[k]?.getD .nothing)⟩ | none=>⟨8,W,S⟩):=show Pl.step W S=_ from by unfold Pl.step;rw [hf];dsimp only;rw [hk];rfl
 have hG1:=hG.glL;have hG3:=hG.plL;have hE1:=hE.envL;have HLt:Hid (∀k,Pl.seek W S.env f.nm=some k->k<W.places.length):=fun k h=>oL hE.env hG.gl h;obtain⟨fv,ev,c0,c1,c2,frv,hxb,s1,s2,s3⟩:=hS;simp only [StV,hf] at s1;obtain⟨b,dv,kv,nv,d0,d1,d2,us,rfl,hb,hkr,hks,hnr,hcv,hsh,hkl,hnl⟩:=s1.open_;have HF:Hid (RF w (.pointer (some ⟨b,0,none⟩)) f):=s1;have HEv:Hid (EnvAt M w ev S.env):=s2;obtain⟨ea,ecap,rfl,hec⟩:=s2.shape;have x0:w.cell? ⟨xb,0,none⟩=some (.pointer (some ⟨b,0,none⟩)):=aA hxb 0;have x1:w.cell? ⟨xb,1,none⟩=some (.slice ea S.env.length ecap):=aA hxb 1;rw [hk] at hb;have b0:w.cell? ⟨b,0,none⟩=some (.string ⟨#[110,97,109,101]⟩):=aA hb 0;have b1:w.cell? ⟨b,1,none⟩=some (.string ⟨f.nm.toArray⟩):=aA hb 1;clear hf hk hW hxb s1 s2 s3 hb hkr hks hnr hcv hsh hkl hnl hG hE;go_enter func54,ntmps54
 go_upto_region 10 with fail
 go_cut [6] (fun k6 wx=>k6=.int .i64 (fW (Pl.seek W S.env f.nm))/\wx=w.drew)
 case first =>
  go_region_with (go_at_call 89;refine(qH w.drew wb M M W _ S.env f.nm (HW.out.later (Below.refl _ _).drew) (HEv.out.stp (Stp.of_below (Below.refl _ _).drew)) (by omega) (by omega)).mono ?_;rintro e w' ⟨rfl,rfl⟩)
  all_goals
   go_wp2_with fail
   go_meet
   exact⟨rfl,rfl⟩
 case rest =>
  obtain⟨rfl,rfl⟩:=hcut;have HWd:Hid (RW w.drew wb M W):=HW.out.later (Below.refl _ _).drew;have HSd:Hid (RS M w.drew xb S):=HS.out.later HW.out (Below.refl _ _).drew
  cases hsk:Pl.seek W S.env f.nm with
  | none =>rw [hsk] at HR;simp only [show fW none=(-1:Int) from rfl];clear hsk;go_wp2_with fail;go_ret;unfold StepPost;rw [HR.out];exact⟨rfl,M,HWd.out,(Stp.of_below (Below.refl _ _).drew).mx xb,fun h=>by simp at h⟩
  | some k =>
   rw [hsk] at HR;have hlt:=HLt.out k hsk;obtain⟨pv,qv,cv,lv,gv,qs,cs,hM,hws⟩:=HWd.out;obtain⟨gp,capp,rfl,hcp,hgp,_,x,hx,p0,p1,p2,_⟩:=pl_at hws hlt;have c3:w.drew.cell? ⟨wb,3,none⟩=some (.slice (some ⟨gp,0,none⟩) W.places.length capp):=aA hws.blk 3;have HR2:Hid (Pl.step W S=⟨0,W,S.give x⟩):=show _=_ from by rw [HR.out];dsimp only;rw [hx];rfl
   have hki:(k:Int)<(W.places.length:Int):=by omega
   simp only [d6];have HNM:Hid (bT x=.agg #[.string ⟨(vK x).toArray⟩,.int .i64 (vN x),.string ⟨(vS x).toArray⟩]):=rfl;unfold byV at p0 p2;clear hsk hlt hM hws hx HR;generalize vK x=kk at *;generalize vN x=nn at *;generalize vS x=ss at *;go_wp2_with fail;rw [<- HNM.out];refine(aT _ wb xb M W S x HWd.out HSd.out).mono ?_;rintro e w2 ⟨rfl,h1,h2,h3⟩;have H1:Hid (RW w2 wb M W):=h1;have H2:Hid (RS M w2 xb (S.give x)):=h2;have H3:Hid _:=h3;clear h1 h2 h3;go_wp2_with fail;go_ret;unfold StepPost;rw [HR2.out];exact⟨rfl,M,H1.out,((Stp.of_below (Below.refl _ _).drew).mx xb).trans H3.out,fun _=>H2.out⟩
theorem mY(w:World)(wb xb:Nat)(M:Nat->Prop)(W:PW)(S:PS)(f:PF)(hf:S.form=some f)(hk:f.k=.lambda)(hW:RW w wb M W)(hS:RS M w xb S)(hG:WfG W) :Calls prog 54 #[.pointer (some ⟨wb,0,none⟩),.pointer (some ⟨xb,0,none⟩)] w fun e w'=>StepPost M w wb xb W S e w':=by
 obtain⟨i0,hi0,hz0,hz1,hz2⟩:=info_parts Tryz.infoPc;have HW:Hid (RW w wb M W):=hW;have HS:Hid (RS M w xb S):=hS;have HR:Hid (Pl.step W S=⟨0,{W with procs:=W.procs++[(f,S.env)]},S.give (.proc W.procs.length)⟩):=show Pl.step W S=_ from by unfold Pl.step;rw [hf];dsimp only;rw [hk]
 have hpl:=hG.prL;have HK:Hid (f.k=.lambda):=hk;obtain⟨fv,ev,c0,c1,c2,frv,hxb,s1,s2,s3⟩:=hS;simp only [StV,hf] at s1;obtain⟨b,dv,kv,nv,d0,d1,d2,us,rfl,hb,hkr,hks,hnr,hcv,hsh,hkl,hnl⟩:=s1.open_;have HF:Hid (RF w (.pointer (some ⟨b,0,none⟩)) f):=s1;have HEv:Hid (EnvAt M w ev S.env):=s2;obtain⟨ea,ecap,rfl,hec⟩:=s2.shape;have x0:w.cell? ⟨xb,0,none⟩=some (.pointer (some ⟨b,0,none⟩)):=aA hxb 0;have x1:w.cell? ⟨xb,1,none⟩=some (.slice ea S.env.length ecap):=aA hxb 1;rw [hk] at hb;have b0:w.cell? ⟨b,0,none⟩=some (.string ⟨#[108,97,109,98,100,97]⟩):=aA hb 0;obtain⟨pv,qv,cv,lv,gv,qs,cs,hM,hws⟩:=hW;have H:Hid (RWs w wb W pv qv cv lv gv qs cs):=hws;have HM:Hid (M=_):=hM;have hwb:=aB hws.blk;have hxl:=aB hxb;have q1:w.cell? ⟨wb,1,none⟩=some qv:=aA hws.blk 1;have a1:=(bM (o:=1) hwb).1;have a2:=(bM (o:=1) hxl).1;clear hf hk hxb s1 s2 s3 hb hkr hks hnr hcv hsh hkl hnl hG hM hws;go_enter func54,ntmps54
 go_upto_region 15 with fail
 go_cut [] (fun wx=>∃M1,Hid (RW wx wb M1 {W with procs:=W.procs++[(f,S.env)]})/\Hid (Stp M w M1 wx))
 case first =>
  go_region_law ((refine step_append_lies _ (by rfl) _ _ _ (by rfl) 0 186 i0 _ 2 32 underlying91 hi0 hz0 hz1 hz2 rfl (by omega) qv W.procs.length qs (by rfl) ((H.out.pc.alloc _).drew) ⟨w.heap.size,0,none⟩ 1 1 [.pointer (some ⟨b,0,none⟩),.slice ea S.env.length ecap] (by rfl) (by rfl) (World.news_of_block (cs:=#[.pointer (some ⟨b,0,none⟩),.slice ea S.env.length ecap]) (t:=186) (fr:=(0,0)) (news1 w _ _)) (by simp [Value.oneCell']) (by omega) (by unfold maxLen;omega) (by omega) (by simp) (w.heap.size+1) (by simp) ?_;intro g3 cap3 w3 hown3 hgrow3 hat3 hlt3;obtain⟨k1,k2,k3⟩:=fD H.out.blk (cM w _) hgrow3 (aN H.out.pc) (by decide) 1 qv rfl))
  all_goals
   obtain⟨z1,z2⟩:=H.out.procs_push (cM w _) hgrow3 _ (.pointer (some ⟨b,0,none⟩)) (.slice ea S.env.length ecap) (f,S.env) hown3 (tH hat3 (by omega)) HF.out HK.out (by rw [<- HM.out];exact HEv.out);go_wp2_with fail
   go_meet
   exact⟨_,⟨_,_,_,_,_,_,_,rfl,z1⟩,by rw [HM.out];exact z2⟩
 case rest =>obtain⟨M1,HW1,HSt1⟩:=hcut;have HS1:Hid (RS M1 wc xb S):=HS.out.stp HW.out HSt1.out;obtain⟨pv1,qv1,cv1,lv1,gv1,qs1,cs1,hM1,hws1⟩:=HW1.out;have c1':wc.cell? ⟨wb,1,none⟩=some qv1:=aA hws1.blk 1;obtain⟨ca,ccap,rfl,hcc⟩:=dN hws1.pc;rw [show({W with procs:=W.procs++[(f,S.env)]}:PW).procs.length=W.procs.length+1 from by simp] at c1' hcc;have hwrap:IntKind.i64.wrap ((W.procs.length:Nat):Int)=(W.procs.length:Int):=IntWalk.i64_in _ (by omega);clear hM1 hws1 x0 x1 b0 q1 a1 a2 H HM;go_wp2_with fail;refine(aT _ wb xb M1 {W with procs:=W.procs++[(f,S.env)]} S (.proc W.procs.length) HW1.out HS1.out).mono ?_;rintro e w2 ⟨rfl,h1,h2,h3⟩;have H1:Hid (RW w2 wb M1 {W with procs:=W.procs++[(f,S.env)]}):=h1;have H2:Hid (RS M1 w2 xb (S.give (.proc W.procs.length))):=h2;have H3:Hid _:=h3;clear h1 h2 h3;go_wp2_with fail;go_ret;unfold StepPost;rw [HR.out];exact⟨rfl,M1,H1.out,(HSt1.out.mx xb).trans H3.out,fun _=>H2.out⟩
theorem kid0{w:World}{kv:Value}{ks:List PF}{us:List Value}(hkr:w.ownsRow 0 TFP 1 kv ks.length us)(hks:∀(i:Nat)(u:Value)(x:PF),us[i]?=some u->ks[i]?=some x->RF w u x)(i:Nat)(hi:i<ks.length):∃gk ck ob x,kv=.slice (some ⟨gk,0,none⟩) ks.length ck/\ks.length<=ck/\gk<w.heap.size/\(∃cur,w.heap[gk]?=some (.cells cur TFP (0,0)))/\w.cell? ⟨gk,i,none⟩=some (.pointer (some ⟨ob,0,none⟩))/\ks[i]?=some x/\RF w (.pointer (some ⟨ob,0,none⟩)) x:=by
 obtain⟨gk,ck,e,hck,⟨cur,hg⟩,hc⟩:=row1 hkr (by omega);have hl:us.length=ks.length:=by have:=hkr.1;omega
 have hu:us[i]?=some (us[i]'(by omega)):=List.getElem?_eq_getElem (by omega);have hx:ks[i]?=some (ks[i]):=List.getElem?_eq_getElem hi;have hr:=hks i _ _ hu hx;obtain⟨ob,_,_,_,_,_,_,_,e2,_⟩:=hr.open_;rw [e2] at hr hu;exact⟨gk,ck,ob,_,e,hck,aB hg,⟨cur,hg⟩,hc i _ hu,hx,hr⟩
theorem KeepI_drew(w:World):KeepI w w.drew:=fun _ _ _ _ h=>h
theorem cR(w:World)(wb xb:Nat)(M:Nat->Prop)(W:PW)(S:PS)(f:PF)(hf:S.form=some f)(hk:f.k=.iff\/f.k=.set\/f.k=.define\/f.k=.call)(hW:RW w wb M W)(hS:RS M w xb S)(hE:WfS W S) :Calls prog 54 #[.pointer (some ⟨wb,0,none⟩),.pointer (some ⟨xb,0,none⟩)] w fun e w'=>StepPost M w wb xb W S e w':=by
 rcases hk with hk | hk | hk | hk
 all_goals
  have HR0:Hid (Pl.step W S=⟨0,W,(S.push ⟨f,[],1,S.env⟩).work f.ks[0]? S.env⟩):=show Pl.step W S=_ from by unfold Pl.step;rw [hf];dsimp only;rw [hk]
  have HW:Hid (RW w wb M W):=hW;have HS:Hid (RS M w xb S):=hS;have hfl:=hE.fr;obtain⟨fv,ev,c0,c1,c2,frv,hxb,s1,s2,s3⟩:=hS;simp only [StV,hf] at s1;obtain⟨b,dv,kv,nv,d0,d1,d2,us,rfl,hb,hkr,hks,hnr,hcv,hsh,hkl,hnl⟩:=s1.open_;have HF:Hid (RF w (.pointer (some ⟨b,0,none⟩)) f):=s1;have HEv:Hid (EnvAt M w ev S.env):=s2;obtain⟨ea,ecap,rfl,hec⟩:=s2.shape;have x0:w.cell? ⟨xb,0,none⟩=some (.pointer (some ⟨b,0,none⟩)):=aA hxb 0;have x1:w.cell? ⟨xb,1,none⟩=some (.slice ea S.env.length ecap):=aA hxb 1;have hk0:0<f.ks.length:=by rw [hk] at hsh;simp only [shape] at hsh;omega
  rw [hk] at hb;first | have b0:w.cell? ⟨b,0,none⟩=some (.string ⟨#[105,102]⟩):=aA hb 0 | have b0:w.cell? ⟨b,0,none⟩=some (.string ⟨#[115,101,116,33]⟩):=aA hb 0 | have b0:w.cell? ⟨b,0,none⟩=some (.string ⟨#[100,101,102,105,110,101]⟩):=aA hb 0 | have b0:w.cell? ⟨b,0,none⟩=some (.string ⟨#[99,97,108,108]⟩):=aA hb 0
  obtain⟨gk,ck,ob,body,rfl,hck,hgk,⟨curk,hgkt⟩,e0,hbody,hRb⟩:=kid0 hkr hks 0 hk0;have b3:w.cell? ⟨b,3,none⟩=some (.slice (some ⟨gk,0,none⟩) f.ks.length ck):=aA hb 3;have HBo:Hid (RF w (.pointer (some ⟨ob,0,none⟩)) body):=hRb;have HGk:Hid (w.heap[gk]?=some (.cells curk TFP (0,0))):=hgkt;have HHb:Hid (w.heap[b]?=some (.cells #[_,byV f.nm,dv,.slice (some ⟨gk,0,none⟩) f.ks.length ck,nv,d0,d1,d2] TFo (0,0))):=hb;have HBy:Hid (f.ks[0]?=some body):=hbody;have HR:Hid (Pl.step W S=⟨0,W,(S.push ⟨f,[],1,S.env⟩).work (some body) S.env⟩):=show _=_ from by rw [HR0.out,HBy.out]
  clear hf hk hW hxb s1 s2 s3 hb hkr hks hnr hcv hsh hkl hnl hE hRb hgkt hbody HR0;go_enter func54,ntmps54;go_wp2_with fail;refine(qJ _ wb xb M W S ⟨f,[],1,S.env⟩ _ _ _ none 0 HW.out HS.out HF.out (pQ _ _) HEv.out (by omega)).mono ?_;rintro e w1 ⟨rfl,h1,h2,h3,h4⟩;have HW1:Hid (RW w1 wb M W):=h1;have HS1:Hid (RS M w1 xb (S.push ⟨f,[],1,S.env⟩)):=h2;have HT1:Hid (Stp (Mx M xb) w (Mx M xb) w1):=h3;have HK1:Hid (KeepI w w1):=h4;obtain⟨fv',ev',y0,y1,y2,frv',hxb',t1,t2,t3⟩:=h2;have HE1:Hid (EnvAt M w1 ev' S.env):=t2;obtain⟨ea',ecap',rfl,_⟩:=t2.shape;have x1':w1.cell? ⟨xb,1,none⟩=some (.slice ea' S.env.length ecap'):=aA hxb' 1;have b3':w1.cell? ⟨b,3,none⟩=some (.slice (some ⟨gk,0,none⟩) f.ks.length ck):=aA (HK1.out _ _ _ (.inr (.inr (.inl rfl))) HHb.out) 3;have e0':w1.cell? ⟨gk,0,none⟩=some (.pointer (some ⟨ob,0,none⟩)):=(aA (HK1.out _ _ _ (.inr (.inr (.inr (.inl rfl)))) HGk.out) 0).trans ((aA HGk.out 0).symm.trans e0);clear h1 h3 h4 hxb' t1 t2 t3 x0 x1 b0 b3 e0;go_wp2_with fail;have HSx:=HS1;have HBx:Hid (RF w1 (.pointer (some ⟨ob,0,none⟩)) body):=HBo.out.keep HK1.out;have HEx:=HE1;have HTx:=HT1;go_region_with (go_at_call 91;refine(cP _ wb xb M W (S.push ⟨f,[],1,S.env⟩) body S.env _ _ (RW.later HW1.out (Below.refl _ _).drew) (RS.later (W:=W) (wb:=wb) HSx.out HW1.out (Below.refl _ _).drew) (HBx.out.keep (KeepI_drew _)) (HEx.out.stp (Stp.of_below (Below.refl _ _).drew))).mono ?_;rintro e w2 ⟨rfl,h1,h2,h3⟩)
  all_goals
   have H1:Hid (RW w2 wb M W):=h1;have H2:Hid (RS M w2 xb ((S.push ⟨f,[],1,S.env⟩).work (some body) S.env)):=h2;have H3:Hid _:=h3;clear h1 h2 h3;go_wp2_with fail;go_ret;unfold StepPost;rw [HR.out];exact⟨rfl,M,H1.out,HTx.out.trans (((Stp.of_below (Below.refl _ _).drew).mx xb).trans H3.out),fun _=>H2.out⟩
theorem kG(w:World)(wb xb:Nat)(M:Nat->Prop)(W:PW)(S:PS)(f:PF)(hf:S.form=some f)(hk:f.k=.begin)(hW:RW w wb M W)(hS:RS M w xb S)(hE:WfS W S) :Calls prog 54 #[.pointer (some ⟨wb,0,none⟩),.pointer (some ⟨xb,0,none⟩)] w fun e w'=>StepPost M w wb xb W S e w':=by
 have HR0:Hid (Pl.step W S=⟨0,W,(if 1<f.ks.length then S.push ⟨f,[],1,S.env⟩ else S).work f.ks[0]? S.env⟩):=show Pl.step W S=_ from by unfold Pl.step;rw [hf];dsimp only;rw [hk]
 have HW:Hid (RW w wb M W):=hW;have HS:Hid (RS M w xb S):=hS;have hfl:=hE.fr;obtain⟨fv,ev,c0,c1,c2,frv,hxb,s1,s2,s3⟩:=hS;simp only [StV,hf] at s1;obtain⟨b,dv,kv,nv,d0,d1,d2,us,rfl,hb,hkr,hks,hnr,hcv,hsh,hkl,hnl⟩:=s1.open_;have HF:Hid (RF w (.pointer (some ⟨b,0,none⟩)) f):=s1;have HEv:Hid (EnvAt M w ev S.env):=s2;obtain⟨ea,ecap,rfl,hec⟩:=s2.shape;have x0:w.cell? ⟨xb,0,none⟩=some (.pointer (some ⟨b,0,none⟩)):=aA hxb 0;have x1:w.cell? ⟨xb,1,none⟩=some (.slice ea S.env.length ecap):=aA hxb 1;have hk0:0<f.ks.length:=by rw [hk] at hsh;simp only [shape] at hsh;omega
 rw [hk] at hb;have b0:w.cell? ⟨b,0,none⟩=some (.string ⟨#[98,101,103,105,110]⟩):=aA hb 0;obtain⟨gk,ck,ob,body,rfl,hck,hgk,⟨curk,hgkt⟩,e0,hbody,hRb⟩:=kid0 hkr hks 0 hk0;have b3:w.cell? ⟨b,3,none⟩=some (.slice (some ⟨gk,0,none⟩) f.ks.length ck):=aA hb 3;have HBo:Hid (RF w (.pointer (some ⟨ob,0,none⟩)) body):=hRb;have HGk:Hid (w.heap[gk]?=some (.cells curk TFP (0,0))):=hgkt;have HHb:Hid (w.heap[b]?=some (.cells #[byV (fkS .begin),byV f.nm,dv,.slice (some ⟨gk,0,none⟩) f.ks.length ck,nv,d0,d1,d2] TFo (0,0))):=hb;have HBy:Hid (f.ks[0]?=some body):=hbody;by_cases h1:1<f.ks.length
 ·rw [if_pos h1] at HR0;have HR:Hid (Pl.step W S=⟨0,W,(S.push ⟨f,[],1,S.env⟩).work (some body) S.env⟩):=show _=_ from by rw [HR0.out,HBy.out]
  have h1i:(1:Int)<(f.ks.length:Int):=by omega
  clear hf hk hW hxb s1 s2 s3 hb hkr hks hnr hcv hsh hkl hnl hE hRb hgkt hbody HR0;go_enter func54,ntmps54;go_wp2_with fail;refine(qJ _ wb xb M W S ⟨f,[],1,S.env⟩ _ _ _ none 0 HW.out HS.out HF.out (pQ _ _) HEv.out (by omega)).mono ?_;rintro e w1 ⟨rfl,h1,h2,h3,h4⟩;have HW1:Hid (RW w1 wb M W):=h1;have HS1:Hid (RS M w1 xb (S.push ⟨f,[],1,S.env⟩)):=h2;have HT1:Hid (Stp (Mx M xb) w (Mx M xb) w1):=h3;have HK1:Hid (KeepI w w1):=h4;obtain⟨fv',ev',y0,y1,y2,frv',hxb',t1,t2,t3⟩:=h2;have HE1:Hid (EnvAt M w1 ev' S.env):=t2;obtain⟨ea',ecap',rfl,_⟩:=t2.shape;have x1':w1.cell? ⟨xb,1,none⟩=some (.slice ea' S.env.length ecap'):=aA hxb' 1;have b3':w1.cell? ⟨b,3,none⟩=some (.slice (some ⟨gk,0,none⟩) f.ks.length ck):=aA (HK1.out _ _ _ (.inr (.inr (.inl rfl))) HHb.out) 3;have e0':w1.cell? ⟨gk,0,none⟩=some (.pointer (some ⟨ob,0,none⟩)):=(aA (HK1.out _ _ _ (.inr (.inr (.inr (.inl rfl)))) HGk.out) 0).trans ((aA HGk.out 0).symm.trans e0);clear h1 h3 h4 hxb' t1 t2 t3 x0 x1 b0 b3 e0;go_wp2_with fail;have HSx:=HS1;have HBx:Hid (RF w1 (.pointer (some ⟨ob,0,none⟩)) body):=HBo.out.keep HK1.out;have HEx:=HE1;have HTx:=HT1;go_region_with (go_at_call 91;refine(cP _ wb xb M W (S.push ⟨f,[],1,S.env⟩) body S.env _ _ (RW.later HW1.out (Below.refl _ _).drew) (RS.later (W:=W) (wb:=wb) HSx.out HW1.out (Below.refl _ _).drew) (HBx.out.keep (KeepI_drew _)) (HEx.out.stp (Stp.of_below (Below.refl _ _).drew))).mono ?_;rintro e w2 ⟨rfl,h1,h2,h3⟩)
  all_goals
   have H1:Hid (RW w2 wb M W):=h1;have H2:Hid (RS M w2 xb ((S.push ⟨f,[],1,S.env⟩).work (some body) S.env)):=h2;have H3:Hid _:=h3;clear h1 h2 h3;go_wp2_with fail;go_ret;unfold StepPost;rw [HR.out];exact⟨rfl,M,H1.out,HTx.out.trans (((Stp.of_below (Below.refl _ _).drew).mx xb).trans H3.out),fun _=>H2.out⟩
 ·rw [if_neg h1] at HR0;have HR:Hid (Pl.step W S=⟨0,W,S.work (some body) S.env⟩):=show _=_ from by rw [HR0.out,HBy.out]
  have h1i:decide ((1:Int)<(f.ks.length:Int))=false:=by simp;omega
  have HSx:=HS;have HBx:=HBo;have HEx:=HEv;have HTx:Hid (Stp (Mx M xb) w (Mx M xb) w):=Stp.refl _ _;clear hf hk hW hxb s1 s2 s3 hb hkr hks hnr hcv hsh hkl hnl hE hRb hgkt hbody HR0;go_enter func54,ntmps54;go_wp2_with fail;go_region_with (go_at_call 91;refine(cP _ wb xb M W S body S.env _ _ (RW.later HW.out (Below.refl _ _).drew) (RS.later (W:=W) (wb:=wb) HSx.out HW.out (Below.refl _ _).drew) (HBx.out.keep (KeepI_drew _)) (HEx.out.stp (Stp.of_below (Below.refl _ _).drew))).mono ?_;rintro e w2 ⟨rfl,h1,h2,h3⟩)
  all_goals
   have H1:Hid (RW w2 wb M W):=h1;have H2:Hid (RS M w2 xb (S.work (some body) S.env)):=h2;have H3:Hid _:=h3;clear h1 h2 h3;go_wp2_with fail;go_ret;unfold StepPost;rw [HR.out];exact⟨rfl,M,H1.out,HTx.out.trans (((Stp.of_below (Below.refl _ _).drew).mx xb).trans H3.out),fun _=>H2.out⟩
theorem rf_top(n:Nat)(hn:n+1<=1000)(ok:Nat->Prop)(w:World)(v:Value)(t:Tr)(h:RepR ok (n+1) w v t)(hln:dF (n+1) t) :Calls prog 73 #[v] w fun e w'=>FoPost w (Pl.topOf n t) e w':=by
 have HR:Hid (RepR ok (n+1) w v t):=h;have HLn:Hid (dF (n+1) t):=hln;clear hln;by_cases hls:∃ts,t=.agg ts
 ·obtain⟨ts,rfl⟩:=hls
  cases ts with
  | nil =>
   have HK:Hid (Pl.topOf n (.agg [])=formOf (n+1) (.agg [])):=rfl;obtain⟨b,kids,vs,rfl,hb,ck,c3,hS,hl,_⟩:=h.list;have ck2:w.cell? ⟨b,0,none⟩=some (.string ⟨#[108,105,115,116]⟩):=ck;obtain⟨ao,cap,rfl,_⟩:=hS;rw [hl] at c3;simp only [List.length_nil] at c3;clear ck hl h;go_enter func73,ntmps73;go_wp2_with fail;refine(gP (n+1) hn ok _ _ _ HR.out HLn.out).mono ?_;rintro e w5 ⟨hB5,hcase⟩;have HB5:Hid (Below w.heap.size w w5):=hB5;rcases hcase with⟨f,bf,hf,rfl,hm⟩ | ⟨hf,rfl⟩
   ·have HE:Hid (_=some f):=HK.out.trans hf;have HM:Hid (∃m,RepU false m w5 w.heap.size w5.heap.size (.pointer (some ⟨bf,0,none⟩)) f):=hm;clear hB5 hf hm;go_wp2_with fail;go_ret;exact⟨HB5.out,.inl ⟨_,_,HE.out,rfl,HM.out⟩⟩
   ·have HE:Hid (_=none):=HK.out.trans hf;clear hB5 hf;go_wp2_with fail;go_ret;exact⟨HB5.out,.inr ⟨HE.out,rfl⟩⟩
  | cons k r =>
   obtain⟨b,g,off,cap,u0,us,rfl,hb,ck,c3,hcap,hg,c0,_,_,r0,_,_⟩:=h.cons;have hpos:(0:Int)<(r.length:Int)+1:=by omega
   obtain⟨b0,rfl,hb0,ck0,cs0⟩:=r0.cellS;by_cases hnm:∃s,k=.lit (.string s)
   ·obtain⟨s,rfl⟩:=hnm;have ck1:w.cell? ⟨b0,0,none⟩=some (.string ⟨#[110,97,109,101]⟩):=ck0;have cs1:w.cell? ⟨b0,2,none⟩=some (.string ⟨s.toArray⟩):=cs0;clear ck0 cs0 h r0;by_cases hd:s=[100,101,102,105,110,101]
    ·subst hd;have HK:Hid (Pl.topOf n (.agg (.lit (.string [100,101,102,105,110,101])::r))=Pl.asgF .define (formOf n) r):=rfl;go_enter func73,ntmps73;go_wp2_with fail;refine(iY n (gP n (by omega)) .define (.inr rfl) ok _ _ r HR.out (fun x hx=>HLn.out.2 x (List.mem_cons_of_mem _ hx))).mono ?_;rintro e w5 ⟨hB5,hcase⟩;have HB5:Hid (Below w.heap.size w w5):=hB5;rcases hcase with⟨f,bf,hf,rfl,hm⟩ | ⟨hf,rfl⟩
     ·have HE:Hid (_=some f):=HK.out.trans hf;have HM:Hid (∃m,RepU false m w5 w.heap.size w5.heap.size (.pointer (some ⟨bf,0,none⟩)) f):=hm;clear hB5 hf hm;go_wp2_with fail;go_ret;exact⟨HB5.out,.inl ⟨_,_,HE.out,rfl,HM.out⟩⟩
     ·have HE:Hid (_=none):=HK.out.trans hf;clear hB5 hf;go_wp2_with fail;go_ret;exact⟨HB5.out,.inr ⟨HE.out,rfl⟩⟩
    ·have HK:Hid (Pl.topOf n (.agg (.lit (.string s)::r))=formOf (n+1) (.agg (.lit (.string s)::r))):=by
      show Pl.topOf _ _=_;unfold Pl.topOf;dsimp only;rw [if_neg (show ¬s=Pl.defineW from hd)]
     have ed:(s==[100,101,102,105,110,101])=false:=by simpa using hd
     clear hd;go_enter func73,ntmps73;go_wp2_with fail;refine(gP (n+1) hn ok _ _ _ HR.out HLn.out).mono ?_;rintro e w5 ⟨hB5,hcase⟩;have HB5:Hid (Below w.heap.size w w5):=hB5;rcases hcase with⟨f,bf,hf,rfl,hm⟩ | ⟨hf,rfl⟩
     ·have HE:Hid (_=some f):=HK.out.trans hf;have HM:Hid (∃m,RepU false m w5 w.heap.size w5.heap.size (.pointer (some ⟨bf,0,none⟩)) f):=hm;clear hB5 hf hm;go_wp2_with fail;go_ret;exact⟨HB5.out,.inl ⟨_,_,HE.out,rfl,HM.out⟩⟩
     ·have HE:Hid (_=none):=HK.out.trans hf;clear hB5 hf;go_wp2_with fail;go_ret;exact⟨HB5.out,.inr ⟨HE.out,rfl⟩⟩
   ·have HK:Hid (Pl.topOf n (.agg (k::r))=formOf (n+1) (.agg (k::r))):=by
     show Pl.topOf _ _=_;unfold Pl.topOf;split
     ·rename_i h0 e;simp only [DataW.agg.injEq,List.cons.injEq] at e;exact absurd ⟨_,e.1⟩ hnm
     ·rfl
    have hkk:∃kk:List UInt8,w.cell? ⟨b0,0,none⟩=some (.string ⟨kk.toArray⟩)/\(kk==[110,97,109,101])=false:=by
     rcases r0.kinds with⟨_,_,rfl⟩ | ⟨_,rfl⟩ | ⟨s,rfl⟩ | ⟨_,rfl⟩
     ·exact⟨[110,117,109,98,101,114],ck0,by decide⟩
     ·exact⟨[116,114,117,116,104],ck0,by decide⟩
     ·exact absurd ⟨s,rfl⟩ hnm
     ·exact⟨[108,105,115,116],ck0,by decide⟩
    obtain⟨kk,ck1,hkk0⟩:=hkk;clear ck0 cs0 hnm h r0;go_enter func73,ntmps73;go_wp2_with fail;refine(gP (n+1) hn ok _ _ _ HR.out HLn.out).mono ?_;rintro e w5 ⟨hB5,hcase⟩;have HB5:Hid (Below w.heap.size w w5):=hB5;rcases hcase with⟨f,bf,hf,rfl,hm⟩ | ⟨hf,rfl⟩
    ·have HE:Hid (_=some f):=HK.out.trans hf;have HM:Hid (∃m,RepU false m w5 w.heap.size w5.heap.size (.pointer (some ⟨bf,0,none⟩)) f):=hm;clear hB5 hf hm;go_wp2_with fail;go_ret;exact⟨HB5.out,.inl ⟨_,_,HE.out,rfl,HM.out⟩⟩
    ·have HE:Hid (_=none):=HK.out.trans hf;clear hB5 hf;go_wp2_with fail;go_ret;exact⟨HB5.out,.inr ⟨HE.out,rfl⟩⟩
 ·have HK:Hid (Pl.topOf n t=formOf (n+1) t):=by
   show Pl.topOf _ _=_;unfold Pl.topOf;split
   ·exact absurd ⟨_,rfl⟩ hls
   ·rfl
  obtain⟨kk,hkk,hk0⟩:=h.notList hls;obtain⟨b,rfl,hb,ck,cs⟩:=h.cellS;rw [hkk] at ck;clear hkk hls h cs;go_enter func73,ntmps73;go_wp2_with fail;refine(gP (n+1) hn ok _ _ _ HR.out HLn.out).mono ?_;rintro e w5 ⟨hB5,hcase⟩;have HB5:Hid (Below w.heap.size w w5):=hB5;rcases hcase with⟨f,bf,hf,rfl,hm⟩ | ⟨hf,rfl⟩
  ·have HE:Hid (_=some f):=HK.out.trans hf;have HM:Hid (∃m,RepU false m w5 w.heap.size w5.heap.size (.pointer (some ⟨bf,0,none⟩)) f):=hm;clear hB5 hf hm;go_wp2_with fail;go_ret;exact⟨HB5.out,.inl ⟨_,_,HE.out,rfl,HM.out⟩⟩
  ·have HE:Hid (_=none):=HK.out.trans hf;clear hB5 hf;go_wp2_with fail;go_ret;exact⟨HB5.out,.inr ⟨HE.out,rfl⟩⟩
def ReadQ(w:World)(bs:List UInt8)(e:Ending)(w':World):Prop:=∃po,e=.returned (.tuple #[.pointer po,.int .i64 (Pl.check bs:Int)])/\Below w.heap.size w w' /\
 (Pl.check bs=0->∃f b m,Pl.readF bs=some f/\po=some ⟨b,0,none⟩/\RepU false m w' w.heap.size w'.heap.size (.pointer (some ⟨b,0,none⟩)) f)
theorem kN(n:Nat)(t:Tr):(Pl.topOf n t).isSome=Pl.isTop n t:=by
 have hf:(fun x=>(formOf n x).isSome)=isForm n:=funext (Pl.formOf_some n);unfold Pl.topOf;split
 ·rename_i h r;show _=if h=Pl.defineW then Pl.asgOk (isForm n) r else isForm (n+1) _;split
  ·rw [Pl.asgF_some,hf]
  ·exact Pl.formOf_some _ _
 ·rename_i hno;rw [Pl.formOf_some];unfold Pl.isTop;split
  ·rename_i h r;exact absurd rfl (hno h r)
  ·rfl
theorem pls_len(n:Nat)(ih:∀l p,Pl.pd n l=some p->p.gr=false->(∀t∈l,t.length<=300)->l.length<=900->dF n p.t):∀(k:Nat)(l:List Pl.Tok)(p:Pl.PL),Pl.pls (Pl.pd n) k l=some p->p.gr=false->(∀t∈l,t.length<=300)->l.length<=900->(p.ts.length+p.q.length+1<=l.length/\∀x∈p.ts,dF n x):=by
 intro k
 induction k with
 | zero=>intro l p h;simp [Pl.pls] at h
 | succ k ihk =>
  intro l p h hg ht hl
  cases l with
  | nil=>simp [Pl.pls] at h
  | cons t r =>
   rw [Pl.pls_cons] at h;split at h
   ·obtain rfl:=Option.some.inj h;simp
   ·cases h1:Pl.pd n (t::r) with
    | none=>rw [h1] at h;simp at h
    | some p1 =>
     rw [h1] at h;dsimp only at h;have tl:=Pl.pd_tail _ _ _ h1
     cases h2:Pl.pls (Pl.pd n) k p1.q with
     | none=>rw [h2] at h;simp at h
     | some p2 =>
      rw [h2] at h;simp only [Option.map_some,Option.some.injEq] at h;subst h;simp only [Bool.or_eq_false_iff] at hg;have hq:p1.q.length<(t::r).length:=tl.2;have o1:=ih _ _ h1 hg.1 ht hl;have o2:=ihk _ _ h2 hg.2 (fun y hy=>ht y (tl.1.mem hy)) (by omega);refine⟨?_,fun x hx=>?_⟩
      ·have:=o2.1;simp only [List.length_cons] at hq ⊢;omega
      ·rcases List.mem_cons.1 hx with rfl | hx
       ·exact o1
       ·exact o2.2 x hx
theorem uL:∀(n:Nat)(l:List Pl.Tok)(p:Pl.PR),Pl.pd n l=some p->p.gr=false->(∀t∈l,t.length<=300)->l.length<=900->dF n p.t
 | 0,_,_,h,_,_,_=>by simp [Pl.pd] at h
 | n+1,[],_,h,_,_,_=>by simp [Pl.pd] at h
 | n+1,t::r,p,h,hg,ht,hl=>by
  have hb:=(Pl.pd_ok _ _ _ h).big hg ht;unfold Pl.pd at h;split at h
  ·simp at h
  split at h
  ·obtain rfl:=Option.some.inj h;trivial
  split at h
  ·obtain rfl:=Option.some.inj h;trivial
  split at h
  ·simp only [Option.map_eq_some_iff] at h;obtain⟨p1,h1,rfl⟩:=h;have o:=uL n r p1 h1 hg (fun y hy=>ht y (List.mem_cons_of_mem _ hy)) (by simp at hl;omega)
   cases n with
   | zero=>simp [Pl.pd] at h1
   | succ m =>
    refine⟨by simp,fun x hx=>?_⟩;rcases List.mem_cons.1 hx with rfl | hx
    ·show Pl.quoteW.length<=300;decide
    ·obtain rfl:x=p1.t:=by simpa using hx
     exact o
  split at h
  ·simp only [Option.map_eq_some_iff] at h;obtain⟨p1,h1,rfl⟩:=h;have o:=pls_len n (fun l p=>uL n l p) _ _ _ h1 hg (fun y hy=>ht y (List.mem_cons_of_mem _ hy)) (by simp at hl;omega);exact⟨by have:=o.1;simp at hl;omega,o.2⟩
  ·simp only [Option.map_eq_some_iff] at h;obtain⟨p1,h1,rfl⟩:=h;unfold Pl.pw at h1;split at h1
   ·obtain rfl:=Option.some.inj h1;exact hb
   ·split at h1
    ·obtain rfl:=Option.some.inj h1;exact hb
    ·simp at h1
theorem rf_read(s:ByteArray)(w:World)(hs0:s.size<=maxLen):Calls prog 43 #[.string s] w fun e w'=>ReadQ w s.data.toList e w':=by
 unfold maxLen at hs0;by_cases hs:300<s.size
 ·have HE:Hid (Pl.check s.data.toList=1):=show Pl.check _=1 from by unfold Pl.check;rw [if_pos (by simpa using hs)]
  go_enter func43,ntmps43
  go_wp2_with fail
  go_ret2;exact⟨none,by rw [HE.out];rfl,Below.refl _ _,fun h0=>by rw [HE.out] at h0;cases h0⟩
 ·have hs1:¬300<s.data.toList.length:=by simpa using hs
  have hd300:decide ((300:Int)<(s.size:Int))=false:=by simp;omega
  go_enter func43,ntmps43
  go_wp2_with fail
  refine(rT s _ (by omega)).mono ?_;rintro e w1 ⟨v,bo,rfl,hB1,hcase⟩;have HB1:Hid (Below w.heap.size w w1):=hB1;have hsz1:=hB1.size;clear hB1;rcases hcase with⟨ht,rfl⟩ | ⟨l,ht,rfl,hrow⟩
  ·have HE:Hid (Pl.check s.data.toList=2):=show Pl.check _=2 from by unfold Pl.check;rw [if_neg hs1,ht]
   clear ht;go_wp2_with fail;go_ret2;exact⟨none,by rw [HE.out];rfl,HB1.out,fun h0=>by rw [HE.out] at h0;cases h0⟩
  ·have HC:Hid (Pl.check s.data.toList=if l.all Pl.goodTok=false then 2 else match Pl.pd l.length l with
     | none=>2
     | some p=>if p.q≠[] then 2 else if 20<p.dp then 3 else if p.gr=true then 4 else if Pl.isTop (l.length-1) p.t=true then 0 else 5):=show Pl.check _=_ from by
    unfold Pl.check;rw [if_neg hs1,ht];rfl
   have hll:=(Pl.toks_size ht)
   have hln:l.length<=300:=by have:=hll.1;omega
   have HTs:Hid (∀t∈l,0<t.length/\t.length<=300):=fun t h=>⟨(hll.2 t h).1,by have:=(hll.2 t h).2;omega⟩
   have HTk:Hid (Pl.toks s.data.toList=some l):=ht;clear hll ht hs1;have HRow:Hid (ToksAt w1 v l):=⟨hrow.1,hrow.2.imp id (fun⟨g,cap,cur,a,b,c⟩=>⟨g,cap,cur,a,Nat.zero_le _,c⟩)⟩
   obtain⟨ao,cap,rfl,hcap,hcell⟩:=dM HRow.out;have HCl:Hid (∀(i:Nat)(t:List UInt8),l[i]?=some t->∃g,ao=some ⟨g,0,none⟩/\w1.cell? ⟨g,i,none⟩=some (.string ⟨t.toArray⟩)):=hcell;clear hcell hrow;go_wp2_with fail
   go_loopw [6] (fun i wr=>∃k:Nat,k<=l.length/\i=.int .i64 k/\Hid (Below w1.heap.size w1 wr)/\Hid ((l.take k).all Pl.goodTok=true)) (fun i _=>l.length-(intOf i).toNat)
   case atStart=>exact⟨0,Nat.zero_le _,rfl,Below.refl _ _,by simp [Hid]⟩
   case round =>
    obtain⟨k,hk,rfl,HB,HG⟩:=hrel;by_cases hlt:k<l.length
    ·obtain⟨t,ht⟩:∃t,l[k]?=some t:=⟨l[k],List.getElem?_eq_getElem hlt⟩
     obtain⟨g,rfl,hc⟩:=HCl.out k t ht;have hts:=HTs.out t (List.mem_of_getElem? ht);have hgl:g<w1.heap.size:=World.block_lt_of_cell? _ _ hc;have hc':wr.cell? ⟨g,k,none⟩=some (.string ⟨t.toArray⟩):=(HB.out.cell (p:=⟨g,k,none⟩) hgl).trans hc;have hcA:∀o:Obj,(wr.alloc o).cell? ⟨g,k,none⟩=some (.string ⟨t.toArray⟩):=fun o=>((HB.out.alloc HB.out.size o).cell (p:=⟨g,k,none⟩) hgl).trans hc;have HX:Hid (l[k]?=some t):=ht;have hlt2:(k:Int)<(l.length:Int):=by omega
     obtain⟨s0,hs0'⟩:∃s0:ByteArray,s0=⟨t.toArray⟩:=⟨_,rfl⟩
     have hsz0:0<s0.size:=by rw [hs0'];show 0<t.toArray.size;simpa using hts.1
     have hd0:s0.data.toList=t:=by rw [hs0']
     rw [<- hs0'] at hc' hcA;have HD:Hid (s0.data.toList=t):=hd0;have hs0l:s0.size<=1000:=by rw [hs0'];show t.toArray.size<=1000;have:=hts.2;simp;omega
     clear ht hc hs0' hd0;go_wp2_with (go_at_call 70;refine(aZ (s0[0]'hsz0) _).mono ?_;rintro e w' ⟨rfl,rfl⟩);refine(qG wr.heap.size s0 _ (.slice none 0 0) 0 0 false (show Rd _ _ _ _ _ _ from heap_alloc_new _ _) hs0l).mono ?_;rintro e w2 ⟨v2,g2,rfl,hgr,hRd,hcase⟩;have HB2:Hid (Below w1.heap.size w1 w2):=HB.out.trans ((iB rfl hgr).mono HB.out.size)
     have hh0:t.headD 0=s0[0]'hsz0:=by
      have h1:0<s0.data.toList.length:=by simpa using hsz0
      rw [<- HD.out,Pl.head_get _ h1,bE s0 0 hsz0]
     rw [HD.out] at hcase;rcases hcase with⟨h1,_,h3⟩ | ⟨h1,h2,_,h3⟩ | ⟨h1,h2,rfl⟩
     ·have HG2:Hid ((l.take (k+1)).all Pl.goodTok=true):=dK HG.out HX.out (by simp [Pl.goodTok,h1]);obtain⟨bv,rfl⟩:=h3.ptr;clear hgr hRd h1 h3 hh0 hc' hcA hts;go_wp2_with fail
      all_goals
       go_roundw
       case rel=>exact⟨k+1,by omega,by go_num,HB2,HG2⟩
       case measure=>simp [intOf];omega
     ·have HG2:Hid ((l.take (k+1)).all Pl.goodTok=true):=dK HG.out HX.out (by simp [Pl.goodTok,h2]);obtain⟨bv,rfl⟩:=h3.ptr;clear hgr hRd h1 h2 h3 hh0 hc' hcA hts;go_wp2_with fail
      all_goals
       go_roundw
       case rel=>exact⟨k+1,by omega,by go_num,HB2,HG2⟩
       case measure=>simp [intOf];omega
     ·by_cases hw:inW (s0[0]'hsz0)=true
      ·have hbad:l.all Pl.goodTok=false:=by
        rw [List.all_eq_false];exact⟨t,List.mem_of_getElem? HX.out,by simp only [Pl.goodTok,h1,h2,hh0,hw];decide⟩
       have HE:Hid (Pl.check s.data.toList=2):=show Pl.check _=2 from by rw [HC.out,if_pos hbad]
       clear hgr hRd h1 h2 hh0 hc' hcA hts hbad;go_wp2_with fail;go_ret2;exact⟨none,by rw [HE.out];rfl,HB1.out.trans (HB2.out.mono hsz1),fun h0=>by rw [HE.out] at h0;cases h0⟩
      ·have hw0:inW (s0[0]'hsz0)=false:=by simpa using hw
       have HG2:Hid ((l.take (k+1)).all Pl.goodTok=true):=dK HG.out HX.out (by simp only [Pl.goodTok,hh0,hw0];rfl);clear hgr hRd h1 h2 hh0 hc' hcA hts hw;go_wp2_with fail
       go_roundw
       case rel=>exact⟨k+1,by omega,by go_num,HB2,HG2⟩
       case measure=>simp [intOf];omega
    ·have hke:k=l.length:=by omega
     subst hke;have hgood:¬l.all Pl.goodTok=false:=by have:=HG.out;rw [List.take_length] at this;simp [this]
     have HC2:Hid (Pl.check s.data.toList=match Pl.pd l.length l with
       | none=>2
       | some p=>if p.q≠[] then 2 else if 20<p.dp then 3 else if p.gr=true then 4 else if Pl.isTop (l.length-1) p.t=true then 0 else 5):=show Pl.check _=_ from by rw [HC.out,if_neg hgood]
     have HT2:Hid (ToksAt wr (.slice ao l.length cap) l):=HRow.out.kept (aQ none HB.out) (by cases hv:Value.ownBlock (.slice ao l.length cap)<;>simp);have HBw:Hid (Below w.heap.size w wr):=HB1.out.trans (HB.out.mono hsz1);have hszr:=HBw.out.size;clear hgood HC hk hlt HG HCl;go_wp2_with fail;refine(jA l.length _ wr.heap.size (.slice ao l.length cap) l l 0 0 false (show Rd _ _ _ _ _ _ from(heap_alloc_new _ _).trans (by simp [TR])) (World.ownsRow.alloc HT2.out _) (List.suffix_refl _) (Nat.le_refl _) (by omega) (by omega) (Nat.le_refl _) (fun t ht=>by have:=(HTs.out t ht).2;omega) 0 rfl).mono ?_;rintro e w2 ⟨hgr,hpost⟩;have HB2:Hid (Below w.heap.size w w2):=HBw.out.trans ((iB rfl hgr).mono hszr)
     cases hp:Pl.pd l.length l with
     | none =>
      rw [hp] at hpost;dsimp only at hpost;subst hpost;have HE:Hid (Pl.check s.data.toList=2):=show Pl.check _=2 from by rw [HC2.out,hp]
      clear hp hgr;go_wp2_with fail;go_ret2;exact⟨none,by rw [HE.out];rfl,HB2.out,fun h0=>by rw [HE.out] at h0;cases h0⟩
     | some p =>
      rw [hp] at hpost;obtain⟨v2,rfl,hrep,hRd⟩:=hpost;have HC3:Hid (Pl.check s.data.toList=if p.q≠[] then 2 else if 20<p.dp then 3 else if p.gr=true then 4 else if Pl.isTop (l.length-1) p.t=true then 0 else 5):=show Pl.check _=_ from by rw [HC2.out,hp]
      have hpl:=uK hp;have HRf0:Hid (Pl.readF s.data.toList=Pl.topOf (l.length-1) p.t):=show Pl.readF _=_ from by unfold Pl.readF;rw [HTk.out];dsimp only;rw [hp]
      have HOk:Hid (p.gr=false->dF l.length p.t):=fun hg=>uL _ _ _ hp hg (fun t ht=>(HTs.out t ht).2) (by omega);have HRep:Hid (RepR (fun _=>True) l.length w2 v2 p.t):=RepR.mono (fun _ _ _=>trivial) _ _ _ hrep;obtain⟨bv,rfl⟩:=hrep.ptr;obtain⟨_,c1,c2,c3⟩:=hRd.cells;clear hp hgr hrep hRd HC2;by_cases hq:p.q=[]
      ·rw [hq] at c1;simp only [List.length_nil,Nat.sub_zero] at c1;simp only [Nat.zero_add,Nat.zero_max] at c2;simp only [Bool.false_or] at c3;rw [if_neg (by simp [hq])] at HC3;have hdc:decide ((l.length:Int)<(l.length:Int))=false:=by simp
       clear hq;by_cases hd20:20<p.dp
       ·have HE:Hid (Pl.check s.data.toList=3):=show Pl.check _=3 from by rw [HC3.out,if_pos hd20]
        clear HC3 hpl;go_wp2_with fail;go_ret2;exact⟨none,by rw [HE.out];rfl,HB2.out,fun h0=>by rw [HE.out] at h0;cases h0⟩
       ·rw [if_neg hd20] at HC3;by_cases hgr:p.gr=true
        ·have HE:Hid (Pl.check s.data.toList=4):=show Pl.check _=4 from by rw [HC3.out,if_pos hgr]
         clear HC3 hpl;go_wp2_with fail;go_ret2;exact⟨none,by rw [HE.out];rfl,HB2.out,fun h0=>by rw [HE.out] at h0;cases h0⟩
        ·rw [if_neg hgr] at HC3;have hgr0:p.gr=false:=by simpa using hgr
         obtain⟨m,hm⟩:=hpl;have HRep2:Hid (RepR (fun _=>True) (m+1) w2 (.pointer (some ⟨bv,0,none⟩)) p.t):=by rw [<- hm];exact HRep.out
         rw [show l.length-1=m from by omega] at HC3;have HRd:Hid (Pl.readF s.data.toList=Pl.topOf m p.t):=by rw [show m=l.length-1 from by omega];exact HRf0.out
         have HLn:Hid (m+1<=1000/\dF (m+1) p.t):=by rw [<- hm];exact⟨by omega,HOk.out hgr0⟩
         clear hgr hm;go_wp2_with fail;refine(rf_top m HLn.out.1 _ _ _ p.t HRep2.out HLn.out.2).mono ?_;rintro e w5 ⟨hB5,hcase⟩;have HB5:Hid (Below w.heap.size w w5):=HB2.out.trans (hB5.mono HB2.out.size);rcases hcase with⟨f,bf,hf,rfl,m5,hrep5⟩ | ⟨hf,rfl⟩
         ·have HE:Hid (Pl.check s.data.toList=0):=show Pl.check _=0 from by rw [HC3.out,if_pos (by rw [<- kN,hf];rfl)]
          have HRf:Hid (Pl.readF s.data.toList=some f):=HRd.out.trans hf;have HRp:Hid (RepU false m5 w5 w.heap.size w5.heap.size (.pointer (some ⟨bf,0,none⟩)) f):=hrep5.wide HB2.out.size (Nat.le_refl _);clear hB5 hf HC3 hrep5;go_wp2_with fail;go_ret2;exact⟨_,by rw [HE.out];rfl,HB5.out,fun _=>⟨f,bf,m5,HRf.out,rfl,HRp.out⟩⟩
         ·have HE:Hid (Pl.check s.data.toList=5):=show Pl.check _=5 from by rw [HC3.out,if_neg (by rw [<- kN,hf];simp)]
          clear hB5 hf HC3;go_wp2_with fail;go_ret2;exact⟨none,by rw [HE.out];rfl,HB5.out,fun h0=>by rw [HE.out] at h0;cases h0⟩
      ·have hql:0<p.q.length:=List.length_pos_iff.2 hq;have HE:Hid (Pl.check s.data.toList=2):=show Pl.check _=2 from by rw [HC3.out,if_pos hq]
       have hdc:((l.length-p.q.length:Nat):Int)<(l.length:Int):=by obtain⟨m,hm⟩:=hpl;omega
       clear hq HC3 hpl;go_wp2_with fail;go_ret2;exact⟨none,by rw [HE.out];rfl,HB2.out,fun h0=>by rw [HE.out] at h0;cases h0⟩
end
end Go.Proofs.YtkgbdddkcjpgfaaGreatDoor
