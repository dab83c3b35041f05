import Derived.Test.YtkgbdddkcjpgfaaGreatDoorT38
import Derived.Test.YtkgbdddkcjpgfaaGreatDoorT13
namespace Go.Proofs.YtkgbdddkcjpgfaaGreatDoor
set_option maxHeartbeats 4000000
set_option maxRecDepth 100000
open Go.Proofs.Tryz
open Pl (PV PW PS CW SR A8)
section
open Go.RowKit
variable {M:Nat->Prop} {w:World}
theorem nZ(l:List PV):(l.flatMap cZ).length=l.length*3:=by
 induction l with
 | nil=>rfl
 | cons x l a=>simp only [List.flatMap_cons,a_,a,cZ,c_,z_];omega
theorem xZ(w:World)(wb d:Nat)(M:Nat->Prop)(W:PW)(S:PS)(fr:CW)(l m n:Value)(o:Option Addr)(p:Int)(A:RW w wb M W)(B:RS M w d S)(q:RF w l fr.form)(r:CO M w m fr.B8)(s:DF M w n fr.env)(C:S.AB.length<=1000000000) :Calls prog 90 #[.pointer (some ⟨d,0,none⟩),.agg #[l,m,.int .i64 fr.pos,n,.pointer o,.int .i64 p]] w fun e f=>e=.returned (.tuple #[])/\RW f wb M W/\RS M f d (S.push fr)/\Stp (Mx M d) w (Mx M d) f/\Kp M w M f:=by obtain⟨g,h,t,u,v,i,j,D,E,x⟩:=B;obtain⟨b,_,_,_,_,_,_,_,rfl,_⟩:=q.open_;obtain⟨F,y,rfl,_⟩:=r.shape;obtain⟨G,z,rfl,_⟩:=s.shape;refine(lI M w d g h t u v i S.AB _ F G o _ _ _ _ _ p j x C).mono ?_;rintro e f ⟨rfl,a,k,H⟩;have c:Kp M w M f:=eV a j eC.2.2.2.2.2.2 (by decide) (by decide);refine⟨rfl,A.grown a j eC,⟨g,h,t,u,v,_,k,D.keep c.im,E.kp c (.inl rfl),?_⟩,bV a,c⟩;exact⟨w.heap.size,_,_,_,_,rfl,H,q.keep c.im,r.kp c (.inr rfl),s.kp c (.inl rfl),DT.kp c _ _ x⟩
theorem wB(w:World):Kp M w M w.drew.drew:=⟨fun _ _ _ _ h=>h,fun _ _ _ _ a h=>⟨h,a⟩⟩
theorem z6{w':World}(h:Below w.heap.size w w'):Kp M w M w':=⟨fun k _ _ _ a=>(h.block k (aB a)).trans a,fun k _ _ _ b a=>⟨(h.block k (aB a)).trans a,b⟩⟩
theorem YP{base g cap n:Nat}{l:List PV}(h:w.ownsRow base TV 3 (.slice (some ⟨g,0,none⟩) n cap) n (l.flatMap cZ))(e:l.length=n)(f:¬M g):CO M w (.slice (some ⟨g,0,none⟩) n cap) l:=by show Sl _ _ _ _ _ _ _;rw [e];obtain⟨i,j,c,d,k,m⟩:=gT (⟨h.1,h.2.imp id (fun⟨g,cap,b,a,_,c⟩=>⟨g,cap,b,a,Nat.zero_le _,c⟩)⟩:w.ownsRow 0 TV 3 (.slice (some ⟨g,0,none⟩) n cap) n (l.flatMap cZ));refine⟨i,j,c,d,k,m.imp id ?_⟩;rintro⟨r,o,b,rfl,_,p,q⟩;simp only [Value.slice.injEq,o_,Addr.mk.injEq,and_true] at d;obtain⟨⟨rfl,rfl⟩,_⟩:=d;exact⟨g,0,b,rfl,f,p,q⟩
theorem aAC{g cap:Nat}{v:PV}{l:List PV}(h:CO M w (.slice (some ⟨g,0,none⟩) (l.length+1) cap) (v::l))(b:Option Addr)(m c:Nat)(p:m=l.length)(q:l.length<=c)(r:m≠0->b=some ⟨g,3,none⟩):CO M w (.slice b m c) l:=by
 subst p;obtain⟨_,s,k,e,_,d⟩:=h;simp only [Value.slice.injEq] at e;obtain⟨rfl,_,rfl⟩:=e;refine⟨nZ l,b,c,rfl,q,?_⟩;by_cases n:l.length=0
 ·exact .inl n
 ·right;obtain rfl:=r n;rcases d with d | ⟨z,t,f,o,j,x,a⟩
  ·simp at d
  ·simp only [o_,Addr.mk.injEq,and_true] at o;obtain⟨rfl,rfl⟩:=o;refine⟨g,3,f,rfl,j,x,fun i u y=>?_⟩;have:=a (3+i) u (by simp only [List.flatMap_cons,cZ,List.cons_append,List.nil_append];rw [show 3+i=i+1+1+1 from by omega];simpa using y)
   rwa [Nat.zero_add] at this
theorem kE(hI:AY)(w:World)(wb f:Nat)(M:Nat->Prop)(W:PW)(S:PS)(fr:CW)(rest:List CW)(hf:S.form=none)(hr:S.AB=fr::rest)(Z:fr.form.k=.call)(hW:RW w wb M W)(hS:RS M w f S)(hG:Gs w (Mx M f))(aa:fr.B8.length+1=fr.pos)(de:fr.pos<=fr.form.ks.length)(dl:rest.length<=100000000)(hv:BL W S.val)(av:∀v∈fr.B8,BL W v)(hP:L2 W)(hB:Bd W) :Calls prog 87 #[.pointer (some ⟨wb,0,none⟩),.pointer (some ⟨f,0,none⟩)] w fun e w'=>BK M w wb f W S e w':=by
 obtain⟨i0,ah,aw,ax,ay⟩:=info_parts Tryz.TU;have D:Hid (Pl.taken W S=if fr.pos=fr.form.ks.length then(match fr.B8++[S.val] with | []=>⟨9,W,{S with AB:=rest}⟩ | g::d=>Pl.apply W {S with AB:=rest} g d) else⟨0,W,(({S with AB:=rest}:PS).push {fr with B8:=fr.B8++[S.val],pos:=fr.pos+1}).work fr.form.ks[fr.pos]? fr.env⟩):=show Pl.taken W S=_ from by unfold Pl.taken;rw [hr];dsimp only;rw [Z];rfl
 have bw:=h_ hG;have HP:=h_ hP;have bx:=h_ hB
 have az:Hid (∀v∈fr.B8++[S.val],BL W v):=fun v h=>by
  rcases List.mem_append.1 h with h | h
  ·exact av v h
  ·obtain rfl:v=S.val:=by simpa using h
   exact hv
 have bz:Hid (∀k,M k->k<w.heap.size):=fun k Z=>hW.lt Z;have HI:Hid AY:=hI;have HW:=h_ hW;obtain⟨dm,dn,c0,c1,c2,dp,l,s1,s2,s3⟩:=hS;simp only [JN,hf] at s1;obtain⟨rfl,ab⟩:=s1;simp only [cZ,List.cons.injEq,and_true] at ab;obtain⟨rfl,rfl,rfl⟩:=ab;rw [hr] at s3;obtain⟨fb,fv,gv,ev,up,rfl,H,hF,ai,aj,ak⟩:=s3;obtain⟨b,dv,kv,nv,d0,d1,d2,us,rfl,hb,al,ba,ca,cb,cc,dq,cd⟩:=hF.open_;obtain⟨po,rfl⟩:=ak.ptr;obtain⟨ea,I,rfl,dr⟩:=aj.shape;obtain⟨ga,y,rfl,ds⟩:=ai.shape;have HF:=h_ hF;have bc:=h_ aj;have ce:=h_ ai;have cf:=aB l;have x0:w.cell? ⟨f,0,none⟩=some (.pointer none):=aA l 0;have x2:w.cell? ⟨f,2,none⟩=some (.string ⟨(vK S.val).toArray⟩):=aA l 2;have x3:w.cell? ⟨f,3,none⟩=some (.int .i64 (vN S.val)):=aA l 3;have x4:w.cell? ⟨f,4,none⟩=some (.string ⟨(vS S.val).toArray⟩):=aA l 4;have x5:w.cell? ⟨f,5,none⟩=some (.pointer (some ⟨fb,0,none⟩)):=aA l 5;have y0:w.cell? ⟨fb,0,none⟩=some (.pointer (some ⟨b,0,none⟩)):=aA H 0;have y4:w.cell? ⟨fb,4,none⟩=some (.pointer po):=aA H 4;have g5:∀o:Obj,(w.alloc o).frozen? ⟨f,5,none⟩=false:=fun o=>aF ((Below.heap_alloc w o f cf).trans l) 5;have dt:=aB H;have du:=aB hb;have qA:∀(o:Obj)(k T:Nat),k<w.heap.size->(w.alloc o).cell? ⟨k,T,none⟩=w.cell? ⟨k,T,none⟩:=fun o k T Z=>(r_.alloc n_ o).cell (p:=⟨k,T,none⟩) Z;rw [Z] at hb;have b0:w.cell? ⟨b,0,none⟩=some (.string ⟨#[99,97,108,108]⟩):=aA hb 0;have i:=(show Hid (Tk w _ wb f M W S rest) from Tk.mk_ (rest:=rest) hW l po (by unfold JN;rw [hf];exact⟨rfl,rfl⟩) s2 ak)
 have J:=h_ H;have am:=h_ hb;rw [show Pl.FK.call=fr.form.k from Z.symm] at am;have cg:=h_ al;have ch:=h_ ba;have dw:fr.B8.length<=1000:=by omega
 obtain⟨ka,bd,rfl,dx⟩:=dN al;have dy:=h_ aa;clear hf hr Z hW l s2 ak H hF ai aj hb al ba ca cb cc cd hG hP hB hv av hI aa;unfold AM at i;generalize be:vK S.val=kk at *;generalize bf:vN S.val=nn at *;generalize bg:vS S.val=ss at *;have E:=(show Hid (vK S.val=kk/\vN S.val=nn/\vS S.val=ss) from⟨be,bf,bg⟩)
 clear be bf bg;go_enter func87,ntmps87
 go_upto_region 7 with fail
 generalize (w.setCell ⟨f,5,none⟩ (.pointer po)).alloc (.cells #[.string ⟨kk.toArray⟩,.int .i64 nn,.string ⟨ss.toArray⟩] 154)=n at *;have v0:n.cell? ⟨w.heap.size,0,none⟩=some (.string ⟨kk.toArray⟩):=by rw [<- E.1];exact aA i.box 0
 have v1:n.cell? ⟨w.heap.size,1,none⟩=some (.int .i64 nn):=by rw [<- E.2.1];exact aA i.box 1
 have v2:n.cell? ⟨w.heap.size,2,none⟩=some (.string ⟨ss.toArray⟩):=by rw [<- E.2.2];exact aA i.box 2
 clear x0 x2 x3 x4 x5 y0 y4 g5 qA b0;have n1:n.cell? ⟨fb,1,none⟩=some (.slice ga fr.B8.length y):=aA (i.kp.im _ _ _ (.inr (.inr (.inr (.inr (.inr rfl))))) J) 1;have ci:Hid (CO M n (.slice ga fr.B8.length y) fr.B8):=ce.kp i.kp (.inr rfl);have df:w.heap.size<=n.heap.size:=i.AQ.size;have K:w.heap.size<n.heap.size:=World.block_lt_of_cell? _ _ v0
 go_cut [10] (fun L G=>Hid (G.ownsRow n.heap.size TV 3 L fr.B8.length (fr.B8.flatMap cZ))/\Hid (Below n.heap.size n G))
 case first =>
  by_cases hz:fr.B8.length=0
  ·have HZ:=h_ (e_ hz);have dz:n.cell? ⟨fb,1,none⟩=some (.slice ga 0 y):=by rw [n1,hz]
   clear n1 hz;go_wp2_with (first | (at_builtin;refine dG rfl _ _ 93 rfl 154 i0 underlying93 ah ga y rfl rfl ?_))
   go_meet
   exact⟨by rw [HZ.out];exact World.ownsRow_nil _ _ _ _,r_⟩
  ·obtain⟨ge,oe,rfl,eb,_,bh⟩:=Sl.cell ci (by omega);have ac:∀(j:Nat)(u:Value),(fr.B8.flatMap cZ)[j]?=some u->n.cell? ((⟨ge,oe,none⟩:Addr).add j)=some u:=fun j u hu=>by rw [Addr.add_lit];exact bh j u hu
   have cj:=h_ ac;clear bh ac;go_wp2_with (first | (at_builtin;refine wpList_append_lies _ rfl _ _ 93 rfl n.heap.size 154 i0 _ 3 40 underlying93 ah aw ax ay rfl (by decide) (.slice none 0 0) 0 [] rfl (World.ownsRow_nil _ _ _ _) ⟨ge,oe,none⟩ fr.B8.length y (fr.B8.flatMap cZ) rfl (nZ fr.B8) cj (by intro u hu;obtain⟨bb,_,bi⟩:=List.mem_flatMap.1 hu;simp only [cZ,List.mem_cons,List.not_mem_nil,or_false] at bi;rcases bi with rfl | rfl | rfl<;>rfl) (by omega) (by unfold maxLen;omega) (by omega) n_ n.heap.size rfl ?_;intro g3 N w3 q s bj bk))
   go_meet
   refine⟨show World.ownsRow _ _ TV _ _ _ _ from(by have h:=q;simp only [Nat.zero_add,List.nil_append] at h;exact h),cS s⟩
 case rest =>
  obtain⟨ad,O⟩:=hcut;have cl:=(O.cell (p:=⟨w.heap.size,0,none⟩) K).trans v0;have cm:=(O.cell (p:=⟨w.heap.size,1,none⟩) K).trans v1;have cn:=(O.cell (p:=⟨w.heap.size,2,none⟩) K).trans v2;have bl:=O.size;clear n1 v0 v1 v2
  go_upto_region 8 with fail
  go_cut [10] (fun L G=>∃(g:Nat)(an:Nat),L=.slice (some ⟨g,0,none⟩) (fr.B8.length+1) an/\fr.B8.length+1<=an/\Hid (G.ownsRow n.heap.size TV 3 (.slice (some ⟨g,0,none⟩) (fr.B8.length+1) an) (fr.B8.length+1) ((fr.B8++[S.val]).flatMap cZ))/\Hid (Below n.heap.size n G))
  case first =>
   have ec:∀o:Obj,(wc.alloc o).cell? ⟨w.heap.size,0,none⟩=wc.cell? ⟨w.heap.size,0,none⟩:=fun o=>(r_.alloc n_ o).cell (p:=⟨w.heap.size,0,none⟩) (by show w.heap.size<wc.heap.size;omega);go_wp2_with (first | (at_builtin;refine wpList_append_lies _ rfl _ _ 93 rfl n.heap.size 154 i0 _ 3 40 underlying93 ah aw ax ay rfl (by decide) _ fr.B8.length (fr.B8.flatMap cZ) rfl (ad.alloc _) ⟨wc.heap.size,0,none⟩ 1 1 [.string ⟨kk.toArray⟩,.int .i64 nn,.string ⟨ss.toArray⟩] rfl rfl (World.news_of_block (cs:=#[.string ⟨kk.toArray⟩,.int .i64 nn,.string ⟨ss.toArray⟩]) (t:=154) (fr:=(0,0)) (heap_alloc_new wc _)) (by simp [Value.oneCell']) (by decide) (by unfold maxLen;omega) (by omega) (by simp;omega) (wc.heap.size+1) (by simp) ?_;intro g3 N w3 q s bj bk))
   go_meet
   have co:fr.B8.length+1<=N:=by obtain⟨ao,cp,U,e2⟩:=dN q;simp only [Value.slice.injEq] at U;obtain⟨_,_,rfl⟩:=U;exact e2
   refine⟨g3,N,rfl,co,?_,(O.alloc bl _).grown s (by simp;omega) (fun j hj=>(ad.lt j hj).1)⟩;have this:World.ownsRow w3 n.heap.size TV 3 _ _ _:=q;show World.ownsRow _ _ TV _ _ _ _;rw [List.flatMap_append];have U:[S.val].flatMap cZ=[.string ⟨kk.toArray⟩,.int .i64 nn,.string ⟨ss.toArray⟩]:=by rw [<- E.1,<-E.2.1,<-E.2.2];rfl
   rw [U];exact this
  case rest =>
   obtain⟨g,P,rfl,dg,z,C⟩:=hcut;have F:=h_ (i.kp.trans (z6 C));have n2:wc.cell? ⟨fb,2,none⟩=some (.int .i64 fr.pos):=aA (F.im _ _ _ (.inr (.inr (.inr (.inr (.inr rfl))))) J) 2;have n4:wc.cell? ⟨b,3,none⟩=some (.slice ka fr.form.ks.length bd):=aA (F.im _ _ _ (.inr (.inr (.inl rfl))) am) 3;have V:=h_ (RW.later i.SX C);have bm:=h_ (i.rs.later i.SX C);have ap:=h_ (i.AQ.trans ((Stp.AA C).mx f));have bn:¬M g:=fun hm=>by have:=bz.out g hm;have:=(z.lt g rfl).1;omega
   have ae:Hid (CO M wc (.slice (some ⟨g,0,none⟩) (fr.B8.length+1) P) (fr.B8++[S.val])):=YP z (by simp) bn;have dh:=(z.lt g rfl).2;clear cl cm cn bn
   go_upto_region 9 with fail
   go_cut [53] (fun cq G=>cq=.bool ((fr.pos:Int)==(fr.form.ks.length:Int))/\G=wc.drew)
   case first =>
    go_region
    all_goals
     go_wp2_with fail
     go_meet
     exact⟨rfl,rfl⟩
   case rest =>
    obtain⟨rfl,rfl⟩:=hcut;by_cases hp:fr.pos=fr.form.ks.length
    ·rw [if_pos hp] at D;have cr:((fr.pos:Int)==(fr.form.ks.length:Int))=true:=by rw [beq_iff_eq];omega
     obtain⟨A,d,hl⟩:∃A d,fr.B8++[S.val]=A::d:=by
      cases ed:fr.B8 with
      | nil=>exact⟨_,_,rfl⟩
      | cons a r=>exact⟨a,r++[S.val],rfl⟩
     have aq:d.length=fr.B8.length:=by have:=congrArg List.length hl;simp at this;omega
     have HR:Hid (Pl.taken W S=Pl.apply W {S with AB:=rest} A d):=show _=_ from by rw [D.out,hl]
     have X:=ae.out;rw [hl,<-aq] at X;have ct:=h_ X;obtain⟨g',di,e',_,_,x⟩:=Sl.cell X (by simp);simp only [o_,Addr.mk.injEq,and_true] at e';obtain⟨rfl,rfl⟩:=e';have k0:wc.cell? ⟨g,0,none⟩=some (.string ⟨(vK A).toArray⟩):=x 0 _ rfl;have k1:wc.cell? ⟨g,1,none⟩=some (.int .i64 (vN A)):=x 1 _ rfl;have k2:wc.cell? ⟨g,2,none⟩=some (.string ⟨(vS A).toArray⟩):=x 2 _ rfl;have bo:Hid (∀(ao:Option Addr)(m c:Nat),m=d.length->d.length<=c->(m≠0->ao=some ⟨g,3,none⟩)->Calls prog 131 #[.pointer (some ⟨wb,0,none⟩),.pointer (some ⟨f,0,none⟩),.agg #[.string ⟨(vK A).toArray⟩,.int .i64 (vN A),.string ⟨(vS A).toArray⟩],.slice ao m c] wc.drew.drew fun e w'=>F9 M wc.drew.drew wb f (Pl.apply W {S with AB:=rest} A d) e w'):=fun ao m c U e2 e3 =>uF HI wc.drew.drew wb f M W {S with AB:=rest} A _ d (RW.later V (r_.drew.drew)) (bm.later V (r_.drew.drew)) ((bw.AQ ap).below (r_.drew.drew)) ((aAC ct ao m c U e2 e3).kp (wB wc) (.inr rfl)) (az A (by rw [hl];simp)) (fun v hv=>az.out v (by rw [hl];exact List.mem_cons_of_mem _ hv)) HP bx (by omega);have Y:=h_ aq;clear X x hl D hp aq;generalize vK A=ee at *;generalize vN A=ef at *;generalize vS A=eg at *;have bp:Hid (Stp (Mx M f) w (Mx M f) wc.drew.drew):=ap.trans ((Stp.AA (r_.drew.drew)).mx f);by_cases cu:P=1
     ·subst cu;have cv:fr.B8.length=0:=by omega
      have ar:=h_ cv;go_wp2_with fail;go_region_with (go_at_call 131;refine Calls.mono (bo _ _ _ (by have:=Y.out;have:=ar.out;omega) (by have:=Y.out;have:=ar.out;omega) (fun h=>absurd (by have:=ar.out;omega) h)) ?_;rintro e w5 ⟨rfl,Q⟩)
      all_goals
       have au:=h_ Q;clear Q;go_wp2_with fail;go_ret;unfold BK;rw [HR.out];obtain⟨M',y1,y2,y3⟩:=au.out;exact⟨rfl,M',y1,bp.trans y2,y3⟩
     ·have eh:P-1≠0:=by omega
      go_wp2_with fail
      go_region_with (go_at_call 131;refine Calls.mono (bo _ _ _ (by have:=Y.out;omega) (by have:=Y.out;omega) (fun _=>rfl)) ?_;rintro e w5 ⟨rfl,Q⟩)
      all_goals
       have au:=h_ Q;clear Q;go_wp2_with fail;go_ret;unfold BK;rw [HR.out];obtain⟨M',y1,y2,y3⟩:=au.out;exact⟨rfl,M',y1,bp.trans y2,y3⟩
    ·rw [if_neg hp] at D;have cr:((fr.pos:Int)==(fr.form.ks.length:Int))=false:=by rw [beq_eq_false_iff_ne];omega
     have bq:fr.pos<fr.form.ks.length:=by omega
     obtain⟨gk,ck,ob,af,U,ei,cw,⟨dj,ag⟩,e0,R,br⟩:=PN cg ch fr.pos bq;simp only [Value.slice.injEq] at U;obtain⟨rfl,_,rfl⟩:=U;have HR:Hid (Pl.taken W S=⟨0,W,(({S with AB:=rest}:PS).push {fr with B8:=fr.B8++[S.val],pos:=fr.pos+1}).work (some af) fr.env⟩):=show _=_ from by rw [D.out,R]
     have cx:=h_ br;have bs:=h_ ag;have cy:=h_ e0;have cz:IntKind.i64.wrap ((fr.pos:Int)+1)=(fr.pos:Int)+1:=IntWalk.i64_in _ (by omega);have ej:(fr.pos:Int)<(fr.form.ks.length:Int):=by omega
     have bt:Hid (CO M wc.drew.drew (.slice (some ⟨g,0,none⟩) (fr.B8.length+1) P) (fr.B8++[S.val])):=ae.kp (wB wc) (.inr rfl);have n3:wc.cell? ⟨fb,3,none⟩=some (.slice ea fr.env.length I):=aA (F.im _ _ _ (.inr (.inr (.inr (.inr (.inr rfl))))) J) 3;have bu:Hid (Calls prog 90 #[.pointer (some ⟨f,0,none⟩),.agg #[.pointer (some ⟨b,0,none⟩),.slice (some ⟨g,0,none⟩) (fr.B8.length+1) P,.int .i64 ((fr.pos:Int)+1),.slice ea fr.env.length I,.pointer none,.int .i64 0]] wc.drew.drew fun e w'=>e=.returned (.tuple #[])/\RW w' wb M W/\RS M w' f (({S with AB:=rest}:PS).push {fr with B8:=fr.B8++[S.val],pos:=fr.pos+1})/\Stp (Mx M f) wc.drew.drew (Mx M f) w'/\Kp M wc.drew.drew M w') :=xZ wc.drew.drew wb f M W {S with AB:=rest} {fr with B8:=fr.B8++[S.val],pos:=fr.pos+1} _ _ _ none 0 (RW.later V (r_.drew.drew)) (bm.later V (r_.drew.drew)) (HF.keep (F.trans (wB wc)).im) bt (bc.kp (F.trans (wB wc)) (.inl rfl)) (by show rest.length<=_;omega);clear D hp R br ag e0 cw
     go_upto_region 11 with fail
     go_cut [] (fun G=>Hid (RW G wb M W)/\Hid (RS M G f (({S with AB:=rest}:PS).push {fr with B8:=fr.B8++[S.val],pos:=fr.pos+1}))/\Hid (Stp (Mx M f) w (Mx M f) G)/\Hid (Kp M w M G))
     case first =>
      go_region_with (go_at_call 90;refine Calls.mono bu ?_;rintro e w1 ⟨rfl,h1,h2,h3,h4⟩)
      all_goals
       go_wp2_with fail
       go_meet
       exact⟨h1,h2,(ap.trans ((Stp.AA (r_.drew.drew)).mx f)).trans h3,(F.trans (wB wc)).trans h4⟩
     case rest =>
      obtain⟨bv,da,db,B⟩:=hcut;clear n2 n3 n4 bu;have dk:=B;have m2:=aA (B.im _ _ _ (.inr (.inr (.inr (.inr (.inr rfl))))) J) 2;have m3:=aA (B.im _ _ _ (.inr (.inr (.inr (.inr (.inr rfl))))) J) 3;have m4:=aA (B.im _ _ _ (.inr (.inr (.inl rfl))) am) 3;have m5:=(aA (B.im _ _ _ (.inr (.inr (.inr (.inl rfl)))) bs) fr.pos).trans ((aA bs fr.pos).symm.trans cy);simp only [List.getElem?_toArray,List.getElem?_cons_succ,List.getElem?_cons_zero] at m2 m3 m4;have dc:=h_ (cx.keep B.im);have dd:Hid (DF M _ (.slice ea fr.env.length I) fr.env):=bc.kp B (.inl rfl);go_wp2_with fail;go_region_with (go_at_call 91;refine(cP _ wb f M W (({S with AB:=rest}:PS).push {fr with B8:=fr.B8++[S.val],pos:=fr.pos+1}) af fr.env _ _ (RW.later bv r_.drew) (RS.later (W:=W) (wb:=wb) da bv r_.drew) (dc.keep (CN _)) (dd.AQ (Stp.AA r_.drew))).mono ?_;rintro e w2 ⟨rfl,h1,h2,h3⟩)
      all_goals
       have H1:=h_ h1;have H2:=h_ h2;have H3:=h_ h3;clear h1 h2 h3;go_wp2_with fail;go_ret;unfold BK;rw [HR.out];exact⟨rfl,M,H1,db.trans (((Stp.AA r_.drew).mx f).trans H3),fun _=>H2.out⟩
structure FrOk(W:PW)(fr:CW):Prop where
 env:LG W fr.env
 G1:fr.env.length<=100000000
 kind:fr.form.k=.iff\/fr.form.k=.set\/fr.form.k=.define\/fr.form.k=.begin\/fr.form.k=.call
 JY:fr.form.k=.begin->fr.pos<fr.form.ks.length
 call:fr.form.k=.call->fr.B8.length+1=fr.pos/\fr.pos<=fr.form.ks.length/\∀v∈fr.B8,BL W v
structure ZO(W:PW)(S:PS):Prop where
 P:L2 W
 B:Bd W
 G:WfG W
 E:WfS W S
 V:S.form=none->BL W S.val
 Fr:∀fr rest,S.AB=fr::rest->FrOk W fr
theorem uA(k:AY)(w:World)(wb b:Nat)(M:Nat->Prop)(W:PW)(S:PS)(fr:CW)(rest:List CW)(f:S.form=none)(c:S.AB=fr::rest)(g:RW w wb M W)(i:RS M w b S)(l:Gs w (Mx M b))(d:ZO W S) :Calls prog 87 #[.pointer (some ⟨wb,0,none⟩),.pointer (some ⟨b,0,none⟩)] w fun e m=>BK M w wb b W S e m:=by
 have a:=d.Fr fr rest c;have j:rest.length<=100000000:=by have:=d.E.fr;rw [c] at this;simp at this;omega
 rcases a.kind with h | h | h | h | h
 ·exact mX w wb b M W S fr rest f c h g i
 ·exact lG w wb b M W S fr rest f c h g i d.G a.env a.G1
 ·exact iD w wb b M W S fr rest f c h g i d.G
 ·exact i6 w wb b M W S fr rest f c h g i (a.JY h) j
 ·obtain⟨n,o,p⟩:=a.call h;exact kE k w wb b M W S fr rest f c h g i l n o j (d.V f) p d.P d.B
theorem xT(p:AY)(w:World)(wb a:Nat)(M:Nat->Prop)(W:PW)(S:PS)(l:S.ended=false)(c:RW w wb M W)(d:RS M w a S)(m:Gs w (Mx M a))(g:ZO W S) :Calls prog 54 #[.pointer (some ⟨wb,0,none⟩),.pointer (some ⟨a,0,none⟩)] w fun e q=>CL M w wb a W S e q:=by
 cases b:S.form with
 | some f =>
  cases h:f.k with
  | const=>exact kF w wb a M W S f b h c d
  | name=>exact lH w wb a M W S f b h c d g.G g.E
  | lambda=>exact mY w wb a M W S f b h c d g.G
  | begin=>exact kG w wb a M W S f b h c d g.E
  | iff=>exact cR w wb a M W S f b (.inl h) c d g.E
  | set=>exact cR w wb a M W S f b (.inr (.inl h)) c d g.E
  | define=>exact cR w wb a M W S f b (.inr (.inr (.inl h))) c d g.E
  | call=>exact cR w wb a M W S f b (.inr (.inr (.inr h))) c d g.E
 | none =>
  cases k:S.AB with
  | nil=>simp [Pl.PS.ended,b,k] at l
  | cons r i =>
   have s:=h_ (uA p w wb a M W S r i b k c d m g);have t:Hid (Pl.step W S=Pl.taken W S):=show Pl.step W S=_ from by unfold Pl.step;rw [b]
   obtain⟨z,A,B,C,D,u,j,n,v,x⟩:=d;simp only [JN,b] at n;obtain⟨rfl,_⟩:=n;have E:w.cell? ⟨a,0,none⟩=some (.pointer none):=aA j 0;clear j v x b k l c m g;go_enter func54,ntmps54;go_wp2_with fail;refine Calls.mono s ?_;rintro e F ⟨rfl,o⟩;have y:=h_ o;clear o;go_wp2_with fail;go_ret;unfold CL;rw [t.out];exact⟨rfl,y⟩
def ResF(M:Nat->Prop)(w:World)(wb xb:Nat)(r:SR)(e:Ending)(w':World):Prop :=e=.returned (.int .i64 (r.e:Int))/\∃M',RW w' wb M' r.W/\Stp (Mx M xb) w (Mx M' xb) w'/\(r.e=0\/r.e=7->RS M' w' xb r.S)
def QX(Inv:Nat->PW->PS->Prop):Prop:=∀n W S,Inv (n+1) W S->S.ended=false->ZO W S/\(Pl.step W S).e≠7/\((Pl.step W S).e=0->Inv n (Pl.step W S).W (Pl.step W S).S)
theorem xW(H:AY)(o:Nat->PW->PS->Prop)(I:QX o)(w:World)(wb c:Nat)(M:Nat->Prop)(W:PW)(S:PS)(n:Nat)(hn:n<=1000000000)(h:o n W S)(J:RW w wb M W)(K:RS M w c S)(L:Gs w (Mx M c)) :Calls prog 56 #[.pointer (some ⟨wb,0,none⟩),.pointer (some ⟨c,0,none⟩),.int .i64 n] w fun e N=>ResF M w wb c (A8 n W S) e N:=by
 have X:Hid AY:=H;have Y:=h_ I;have Z:=h_ J;have HS:=h_ K;have HG:=h_ L;have HN:=h_ h;clear H I J K L h;go_enter func56,ntmps56;go_wp2_with fail
 go_loopw [7,8,9] (fun i _ _ wr=>∃(k:Nat)(b:PW)(a:PS)(d:Nat->Prop),k<=n/\i=.int .i64 k/\Hid (RW wr wb d b)/\Hid (RS d wr c a)/\Hid (Gs wr (Mx d c))/\Hid (Stp (Mx M c) w (Mx d c) wr)/\Hid (o (n-k) b a)/\Hid (A8 n W S=A8 (n-k) b a)) (fun i _ _ _=>n-(intOf i).toNat)
 case atStart=>exact⟨0,W,S,M,Nat.zero_le _,rfl,Z,HS,HG,Stp.refl _ _,HN,rfl⟩
 case round =>
  obtain⟨k,b,a,d,hk,rfl,p,f,u,g,z,q⟩:=hrel;go_wp2_with fail;refine(uD d _ c a f).mono ?_;rintro e N ⟨rfl,rfl⟩
  cases j:a.ended with
  | true =>
   have t:Hid (A8 n W S=⟨0,b,a⟩):=show _=_ from by
    rw [q.out]
    cases n-k<;>simp [A8,j]
   clear j;go_wp2_with fail;go_ret;rw [t.out];exact⟨rfl,d,p,g,fun _=>f.out⟩
  | false =>
   by_cases A:k=n
   ·subst A;have t:Hid (A8 k W S=⟨7,b,a⟩):=show _=_ from by rw [q.out,Nat.sub_self];simp [A8,j]
    clear j;go_wp2_with fail;go_ret;rw [t.out];exact⟨rfl,d,p,g,fun _=>f.out⟩
   ·obtain⟨m,B⟩:∃m,n-k=m+1:=⟨n-k-1,by omega⟩
    have r:=z.out;rw [B] at r;obtain⟨O,P,v⟩:=Y.out m b a r j;have HO:=h_ O;have C:=h_ v;have H7:=h_ P;have D:=h_ j;have t:Hid (A8 n W S=if(Pl.step b a).e=0 then A8 m (Pl.step b a).W (Pl.step b a).S else Pl.step b a):=show _=_ from by rw [q.out,B];simp [A8,j]
    have aa:((k:Int)==(n:Int))=false:=by rw [beq_eq_false_iff_ne];omega
    have x:m=n-(k+1):=by omega
    have y:=h_ x;clear r O P v j B x;go_wp2_with fail;refine(xT X _ wb c d b a D p f u HO).mono ?_;rintro e w2 ⟨rfl,Q,R,T,U⟩;have V:=h_ R;have E:=h_ T;have H3:=h_ U;clear R T U;by_cases l:(Pl.step b a).e=0
    ·have s:Hid (A8 n W S=A8 m (Pl.step b a).W (Pl.step b a).S):=show _=_ from by rw [t.out,if_pos l]
     have F:=h_ (H3 l);have G:=h_ (C l);have ab:(((Pl.step b a).e:Nat):Int)=0:=by rw [l];rfl
     clear l;go_wp2_with fail
     go_roundw
     case rel =>exact⟨k+1,_,_,Q,by omega,by go_num,V,F,u.AQ E,g.trans E,by rw [<- y.out];exact G,by rw [<- y.out];exact s⟩
     case measure=>simp [intOf];omega
    ·have s:Hid (A8 n W S=Pl.step b a):=show _=_ from by rw [t.out,if_neg l]
     have hb:((((Pl.step b a).e:Nat):Int)!=0)=true:=by simp;omega
     have H0:=h_ l;clear l;go_wp2_with fail;go_ret;rw [s.out];exact⟨rfl,Q,V,g.trans E,fun h=>by rcases h with h | h;exact absurd h H0;exact absurd h H7⟩
theorem WB{W:PW}{S:PS}{t:Nat}(h:WW W t)(k:SW W S t)(f:t<=100000000):ZO W S:=by have g:=h.EX;have i:=h.FU;have j:=h.GN;have l:=h.EM;have m:=h.D1;have n:=k.G1;have o:=k.AB.2;refine⟨⟨h.KV,h.CH,by omega⟩,⟨by omega,fun p c=>by have:=(h.procs p c).2.2.1;omega,by omega,by omega,by omega⟩,⟨h.globals,by omega,by omega,by omega⟩,⟨k.env,by omega,by omega⟩,k.val,?_⟩;intro d b e;have a:=k.AB.1 d (by rw [e];simp);exact⟨a.env,by have:=a.G1;omega,a.kind,a.JY,a.call⟩
theorem s7:QX QC:=by intro n W S h _;obtain⟨t,d,b,c⟩:=h;have a:=jQ b c;exact⟨WB b c (by omega),a.1,fun e=>⟨t+310,by omega,a.2.1,a.2.2 e⟩⟩
end
section
open Go.RowKit
namespace Pl
def W0:PW:=⟨[],[],[],[],[],[]⟩
def KF(l:List AE):PW:=l.foldl (fun W s=>bind W s (.AZ s)) W0
def AW:PW:=KF AO
end Pl
theorem nR(l:List Pl.AE)(s:Pl.AE):Pl.KF (l++[s])=Pl.bind (Pl.KF l) s (.AZ s):=by simp [Pl.KF,List.foldl_append]
theorem W0_ok:WW Pl.W0 0:=⟨fun i p h=>by simp [Pl.W0] at h,fun i p h=>by simp [Pl.W0] at h,n_,fun p h=>by simp [Pl.W0] at h,n_,fun p h=>by simp [Pl.W0] at h,n_,fun p h=>by simp [Pl.W0] at h,n_,fun p h=>by simp [Pl.W0] at h,n_⟩
theorem vQ(l:List Pl.AE)(h:∀s∈l,s∈Pl.AO):WW (Pl.KF l) l.length:=by
 have b:∀n (l:List Pl.AE),l.length=n->(∀s∈l,s∈Pl.AO)->WW (Pl.KF l) n:=by
  intro n
  induction n with
  | zero=>intro l a _;obtain rfl:=e_ a;exact W0_ok
  | succ n f =>
   intro l a d;obtain⟨c,s,rfl⟩:∃c s,l=c++[s]:=⟨l.dropLast,l.getLast (by intro e;simp [e] at a),(List.dropLast_concat_getLast _).symm⟩
   rw [nR];exact(jR (f c (by simpa using a) (fun x g=>d x (by simp [g]))) s (.AZ s) (d s (by simp))).1
 exact b _ l rfl h
theorem vP:WW Pl.AW 13:=vQ Pl.AO (fun _ h=>h)
theorem RW.empty{w:World}{wb:Nat}(h:w.heap[wb]?=some (.cells #[.slice none 0 0,.slice none 0 0,.slice none 0 0,.slice none 0 0,.slice none 0 0,.string ⟨#[]⟩] MG (0,0))):RW w wb (CQ wb [.slice none 0 0,.slice none 0 0,.slice none 0 0,.slice none 0 0,.slice none 0 0]) Pl.W0 :=⟨_,_,_,_,_,[],[],rfl,⟨h,World.ownsRow_nil _ _ _ _,World.ownsRow_nil _ _ _ _,fun i p a=>by simp [Pl.W0] at a,World.ownsRow_nil _ _ _ _,fun i p a=>by simp [Pl.W0] at a,World.ownsRow_nil _ _ _ _,World.ownsRow_nil _ _ _ _,by simp [Pl.W0]⟩⟩
theorem pB(wb k:Nat)(h:k≠wb):¬CQ wb [.slice none 0 0,.slice none 0 0,.slice none 0 0,.slice none 0 0,.slice none 0 0] k:=by
 rintro(e | ⟨v,a,b⟩)
 ·exact h e
 ·simp only [List.mem_cons,List.not_mem_nil,or_false,or_self] at a;subst a;simp [Value.ownBlock] at b
theorem m0(w:World) :Calls prog 46 #[] w fun e f=>e=.returned (.pointer (some ⟨w.heap.size,0,none⟩))/\Below w.heap.size w f/\∃M,RW f w.heap.size M Pl.AW/\∀k,k<w.heap.size->¬M k:=by
 have h:∀B C:Obj,Below w.heap.size w (((w.alloc (.cells #[.slice none 0 0,.slice none 0 0,.slice none 0 0,.slice none 0 0,.slice none 0 0,.string ⟨#[]⟩] 96)).alloc B).alloc C):=fun B C=>(b_.alloc (by simp) _).alloc (by simp;omega) _;have i:=h_ h;clear h;go_enter func46,ntmps46;go_wp2_with fail;refine(bQ _).mono ?_;rintro e f ⟨rfl,rfl⟩;have a:=h_ (i aJ aH);have D:(((w.alloc (.cells #[.slice none 0 0,.slice none 0 0,.slice none 0 0,.slice none 0 0,.slice none 0 0,.string ⟨#[]⟩] 96)).alloc aJ).alloc aH).heap[w.heap.size]?=some (.cells #[.slice none 0 0,.slice none 0 0,.slice none 0 0,.slice none 0 0,.slice none 0 0,.string ⟨#[]⟩] MG (0,0)):=by rw [k_ (by simp;omega),k_ (by simp)];exact heap_alloc_new _ _
 have E:(((w.alloc (.cells #[.slice none 0 0,.slice none 0 0,.slice none 0 0,.slice none 0 0,.slice none 0 0,.string ⟨#[]⟩] 96)).alloc aJ).alloc aH).heap[w.heap.size+1]?=some aJ:=by
  rw [k_ (by simp)];have:=heap_alloc_new (w.alloc (.cells #[.slice none 0 0,.slice none 0 0,.slice none 0 0,.slice none 0 0,.slice none 0 0,.string ⟨#[]⟩] 96)) aJ
  rwa [show(w.alloc (.cells #[.slice none 0 0,.slice none 0 0,.slice none 0 0,.slice none 0 0,.slice none 0 0,.string ⟨#[]⟩] 96)).heap.size=w.heap.size+1 from by simp] at this
 have l:=h_ (RW.empty D);have F:=h_ E;clear D E i;generalize ((w.alloc (.cells #[.slice none 0 0,.slice none 0 0,.slice none 0 0,.slice none 0 0,.slice none 0 0,.string ⟨#[]⟩] 96)).alloc aJ).alloc aH=G at *;have o:=aB F;go_wp2_with fail
 go_loopw [4] (fun p wr=>∃(k:Nat)(g:Nat->Prop),k<=13/\p=.int .i64 k/\Hid (RW wr w.heap.size g (Pl.KF (Pl.AO.take k)))/\Hid (Stp (CQ w.heap.size [.slice none 0 0,.slice none 0 0,.slice none 0 0,.slice none 0 0,.slice none 0 0]) G g wr)) (fun p _=>13-(intOf p).toNat)
 case atStart=>exact⟨0,_,Nat.zero_le _,rfl,l,Stp.refl _ _⟩
 case round =>
  obtain⟨k,g,T,rfl,H,d⟩:=hrel;by_cases q:k<13
  ·obtain⟨s,r⟩:∃s,Pl.AO[k]?=some s:=⟨_,g_ q⟩
   have N:Hid (Pl.KF (Pl.AO.take (k+1))=Pl.bind (Pl.KF (Pl.AO.take k)) s (.AZ s)):=show _=_ from by rw [<- nR,List.take_add_one,r];rfl
   have c:=vQ (Pl.AO.take k) (fun x O=>List.mem_of_mem_take O);have t:(Pl.AO.take k).length<=13:=by rw [List.length_take];omega
   have u:=c.EM;have v:=c.D1;have U:wr.cell? ⟨w.heap.size+1,k,none⟩=some (.string ⟨s.toArray⟩):=by have P:=(d.block (w.heap.size+1) o (pB _ _ (by omega))).1.trans F;have y:wr.heap[w.heap.size+1]?=some (.cells (Pl.AO.map AM).toArray 9 (0,0)):=P;rw [aA y k];simp only [List.getElem?_toArray,List.getElem?_map,r];rfl
   have z:Hid (Calls prog 77 #[.pointer (some ⟨w.heap.size,0,none⟩),.string ⟨s.toArray⟩,.agg #[.string ⟨#[112,114,105,109,105,116,105,118,101]⟩,.int .i64 0,.string ⟨s.toArray⟩]] wr.drew fun e f=>e=.returned (.tuple #[])/\∃I,RW f w.heap.size I (Pl.bind (Pl.KF (Pl.AO.take k)) s (.AZ s))/\Stp g wr.drew I f) :=qI wr.drew w.heap.size g (Pl.KF (Pl.AO.take k)) s (.AZ s) (H.later r_.drew) c.globals (by omega) (by omega);have Q:(k:Int)<13:=by omega
   clear r c u v t;go_wp2_with fail;go_region_with (go_at_call 77;refine Calls.mono z ?_;rintro e J ⟨rfl,A,K,L⟩)
   all_goals
    have R:Hid (RW J w.heap.size A (Pl.KF (Pl.AO.take (k+1)))):=show RW _ _ _ _ from by rw [N.out];exact K
    have S:Hid (Stp (CQ w.heap.size [.slice none 0 0,.slice none 0 0,.slice none 0 0,.slice none 0 0,.slice none 0 0]) G A J):=d.trans ((Stp.AA r_.drew).trans L);clear K L;go_wp2_with fail
    go_roundw
    case rel=>exact⟨k+1,A,by omega,by go_num,R,S⟩
    case measure=>simp [intOf];omega
  ·have m:k=13:=by omega
   subst m;go_wp2_with fail;go_ret;have b:=d.out;refine⟨rfl,⟨b.os.trans a.os,b.tape.trans a.tape,b.output.trans a.output,t_ a.size b.size,fun j n=>?_⟩,g,H,fun j n=>?_⟩
   ·rw [(b.block j (l_ n a.size) (pB _ _ (by omega))).1];exact a.block j n
   ·exact(b.block j (l_ n a.size) (pB _ _ (by omega))).2
end
end Go.Proofs.YtkgbdddkcjpgfaaGreatDoor
