import Derived.Test.YtkgbdddkcjpgfaaGreatDoorT21
import Derived.Test.YtkgbdddkcjpgfaaGreatDoorT22
import Derived.Test.YtkgbdddkcjpgfaaGreatDoorT23
namespace Go.Proofs.YtkgbdddkcjpgfaaGreatDoor
set_option maxHeartbeats 4000000
set_option maxRecDepth 100000
open Go.Proofs.Tryz
open Pl (PV PW PS PF CW SR AE Env AO AH AU)
section
open Go.RowKit
variable {w:World} {v:Value} {T:TypeId} {n sz:Nat} {xs:List Value}
theorem iW{P:Program}(t a:TypeId)(e:TypeId)(i:TypeInfo)(b:P.underlying t=some (.slice e))(hi:P.info? e=some i)(p:Option Addr)(c:Nat) :(Builtin.append_ #[t,t] a #[.slice none 0 0,.slice p 0 c]).run P w=.ok (.slice none 0 0) w:=by cases p<;>simp [Builtin.append_,run_underlying b,sizeOf,typeInfo,hi,Builtin.lenOf,Builtin.firstCells,loadCells,loadCellsFrom]
theorem dG{P:Program}{b:Array Oper}{rest:List Oper}{o:Oper}{a:Act}{Q:Exit->Act->World->Prop}(f:o.guard=none)(s x:Operand)(t:TypeId)
  (g:o.op=.call {callee:=.builtin .append,args:=#[s,x],argTypes:=#[t,t]})
  (e:TypeId) (i:TypeInfo) (j:P.underlying t=some (.slice e)) (hi:P.info? e=some i)
  (p:Option Addr) (c:Nat) (k:a.eval s=.slice none 0 0) (l:a.eval x=.slice p 0 c)
  (h:wpList P b Q rest (a.put o.dst (.slice none 0 0)) w):wpList P b Q (o::rest) a w:=by
 refine wpList_plain f fun K m=>?_;have d:=iW (P:=P) (w:=w) t o.type e i j hi p c;unfold Oper.wp;simp [execOp,g,resolve,invoke,builtin,k,l,d,Result.andThen];exact m _ _ h
theorem RF.open_{f:PF}(h:RF w v f):∃b o a c g j l m,v=.pointer (some ⟨b,0,none⟩) /\
  w.heap[b]?=some (.cells #[AM (FW f.k),AM f.nm,o,a,c,g,j,l] G3 (0,0))/\w.ownsRow 0 LN 1 a f.ks.length m/\(∀(i:Nat)(u:Value)(x:PF),m[i]?=some u->f.ks[i]?=some x->RF w u x) /\
  w.ownsRow 0 TS 1 c f.ns.length (f.ns.map AM)/\(f.k=.const->[g,j,l]=cZ f.v)/\shape f.k f.ks.length/\f.ks.length<=1000/\f.ns.length<=1000:=by
 obtain⟨n,p⟩:=h
 cases n with
 | zero=>exact p.elim
 | succ n =>obtain⟨k,F,d,G,H,I⟩:=f;obtain⟨b,o,a,c,g,j,l,m,q,r,s,t,y,z,A,B,C⟩:=p;exact⟨b,o,a,c,g,j,l,m,q,r,s,fun i u x D E=>⟨n,t i u x D E⟩,y,fun e=>(z e).1,A,B,C⟩
theorem row1(h:w.ownsRow 0 T 1 v n xs)(j:0<n):∃g a,v=.slice (some ⟨g,0,none⟩) n a/\n<=a/\(∃b,w.heap[g]?=some (.cells b T (0,0)))/\∀(i:Nat)(u:Value),xs[i]?=some u->w.cell? ⟨g,i,none⟩=some u:=by
 rcases h.2 with⟨_,k⟩ | ⟨g,a,b,e,_,c,d,_⟩
 ·omega
 ·refine⟨g,a,e,d,⟨b,c⟩,fun i u f=>?_⟩;have:=h.cells (g:=g) (by rw [e];rfl) i u f
  rwa [Addr.add_lit,Nat.zero_add] at this
theorem dN{base:Nat}(h:w.ownsRow base T sz v n xs):∃b a,v=.slice b n a/\n<=a:=by
 rcases h.2 with⟨e,c⟩ | ⟨g,a,d,e,_,i,f,_⟩
 ·subst c;exact⟨none,0,e,n_⟩
 ·exact⟨_,a,e,f⟩
theorem pc_at{wb:Nat}{W:PW}{pv qv cv lv gv:Value}{qs cs:List Value}(h:EV w wb W pv qv cv lv gv qs cs){i:Nat}{p:PF×Env}(hp:W.procs[i]?=some p):∃g b c d,qv=.slice (some ⟨g,0,none⟩) W.procs.length b/\W.procs.length<=b/\g<w.heap.size/\w.cell? ⟨g,i*2,none⟩=some c/\w.cell? ⟨g,i*2+1,none⟩=some d/\RF w c p.1/\p.1.k=.lambda/\DF (CQ wb [pv,qv,cv,lv,gv]) w d p.2:=by
 have r:=(s_ hp).1;obtain⟨c,d,f,j,k,l,m⟩:=h.pcs i p hp;rcases h.pc.2 with⟨_,s⟩ | ⟨g,b,n,e,_,o,q,_⟩
 ·omega
 ·have a:=h.pc.cells (g:=g) (by rw [e];rfl);refine⟨g,b,c,d,e,q,aB o,?_,?_,k,l,m⟩
  ·have:=a _ _ f;rwa [Addr.add_lit,Nat.zero_add] at this
  ·have:=a _ _ j;rwa [Addr.add_lit,Nat.zero_add] at this
theorem xO{w':World}{base:Nat}(h:w.ownsRow base T sz v n xs)(e:∀k a,v.ownBlock=some k->w.heap[k]?=some (.cells a T (0,0))->w'.heap[k]?=w.heap[k]?):w'.ownsRow base T sz v n xs:=by
 refine⟨h.1,?_⟩;rcases h.2 with f | ⟨g,c,a,rfl,i,d,b⟩
 ·exact .inl f
 ·exact .inr ⟨g,c,a,rfl,i,(e g a rfl d).trans d,b⟩
theorem vM(l:List AE)(s:AE)(n:Nat):Pl.C1 (l++[s]) n=Pl.C1 l n++[(s,n+l.length)]:=by rw [Pl.NS];rfl
theorem qX(l:List AE)(n:Nat):(Pl.C1 l n).length=l.length:=by
 induction l generalizing n with
 | nil=>rfl
 | cons x l a=>simp [Pl.C1,a]
theorem wM(l:Env):(l.flatMap iM).length=l.length*2:=by
 induction l with
 | nil=>rfl
 | cons x l a=>simp only [List.flatMap_cons,a_,a,iM,c_,z_];omega
theorem procB(W:PW)(S:PS)(i:Nat)(p:PF×Env)(l:List PV)(hp:W.procs[i]?=some p):AH W S (.proc i) l=if l.length≠p.1.ns.length then⟨10,W,S⟩ else⟨0,{W with places:=W.places++l},S.work p.1.ks[0]? (p.2++Pl.C1 p.1.ns W.places.length)⟩:=by show(match W.procs[i]? with | some p=>if l.length≠p.1.ns.length then(⟨10,W,S⟩:SR) else⟨0,{W with places:=W.places++l},S.work p.1.ks[0]? (p.2++Pl.C1 p.1.ns W.places.length)⟩ | none=>⟨9,W,S⟩)=_;rw [hp]
theorem xU(w:World)(wb xb:Nat)(M:Nat->Prop)(W:PW)(S:PS)(i:Nat)(av:Value)(l:List PV)(hW:RW w wb M W)(hS:RS M w xb S)(ha:CO M w av l)(hi:i<W.procs.length)(dj:l.length<=1000)(h1:W.places.length<=100000000)(O:∀p∈W.procs,p.2.length<=100000000) :Calls prog 131 #[.pointer (some ⟨wb,0,none⟩),.pointer (some ⟨xb,0,none⟩),bT (.proc i),av] w fun e w'=>F9 M w wb xb (AH W S (.proc i) l) e w':=by
 obtain⟨i0,ab,ay,az,ba⟩:=info_parts Tryz.G_;obtain⟨p,hp⟩:∃p,W.procs[i]?=some p:=⟨_,g_ hi⟩
 have HE:=h_ (procB W S i p l hp);have dk:=O p (q_ hp);have HW:=h_ hW;have HS:=h_ hS;have HA:=h_ ha;obtain⟨pv,qv,cv,lv,gv,qs,cs,hM,J⟩:=hW;obtain⟨gq,q,fv,ev,rfl,dl,dm,ca,cb,hF,V,ac⟩:=pc_at J hp;obtain⟨b,dv,kv,nv,c0,c1,c2,us,rfl,hb,bc,bd,ad,_,ae,dn,dp⟩:=hF.open_;rw [V] at ae;have af:p.1.ks.length=1:=ae;obtain⟨ea,m,rfl,dq⟩:=ac.shape;obtain⟨aa,dc,rfl,dr⟩:=ha.shape;obtain⟨na,X,rfl,ds⟩:=dN ad;have HF:=h_ hF;have cc:=h_ ac;have be:=h_ J;have HM:=h_ hM;have cd:=h_ ad;have ce:=h_ bd;have bf:=h_ bc;have ag:=h_ hb;have dt:=aB J.blk;have ah:=aB hb;have q1:w.cell? ⟨wb,1,none⟩=some (.slice (some ⟨gq,0,none⟩) W.procs.length q):=aA J.blk 1;have f4:w.cell? ⟨b,4,none⟩=some (.slice na p.1.ns.length X):=aA hb 4;have du:(i:Int)<(W.procs.length:Int):=by omega
 have qA:∀(o:Obj)(k d:Nat),k<w.heap.size->(w.alloc o).cell? ⟨k,d,none⟩=w.cell? ⟨k,d,none⟩:=fun o k d N=>(r_.alloc n_ o).cell (p:=⟨k,d,none⟩) N;have qB:∀(o o2:Obj)(k d:Nat),k<w.heap.size->((w.alloc o).alloc o2).cell? ⟨k,d,none⟩=w.cell? ⟨k,d,none⟩:=fun o o2 k d N=>((r_.alloc n_ o).alloc (by simp) o2).cell (p:=⟨k,d,none⟩) N;clear hp hS ha hM J hF ac hb bc bd ad hi O ae V;unfold bT AM vK vN vS s5;go_enter func131,ntmps131;go_wp2_with fail
 go_upto_region 3 with fail
 go_cut [9] (fun p9 wx=>p9=.pointer (some ⟨w.heap.size+1,0,none⟩)/\Hid (Below w.heap.size w wx)/\Hid (wx.heap[w.heap.size+1]?=some (.cells #[.pointer (some ⟨b,0,none⟩),.slice ea p.2.length m] VQ (0,0))))
 case first =>
  go_region
  all_goals
   go_wp2_with fail
   go_meet
   exact⟨rfl,jV w _ _,zN w _ _ _⟩
 case rest =>
  obtain⟨rfl,y,G⟩:=hcut;have x0:wc.cell? ⟨w.heap.size+1,0,none⟩=some (.pointer (some ⟨b,0,none⟩)):=aA G 0;have x1:wc.cell? ⟨w.heap.size+1,1,none⟩=some (.slice ea p.2.length m):=aA G 1;have cf:=(y.cell (p:=⟨b,4,none⟩) ah).trans f4;clear qA qB q1 f4 ca cb;by_cases C:l.length=p.1.ns.length
  ·rw [if_neg (by simpa using C)] at HE;have cg:((l.length:Int)!=(p.1.ns.length:Int))=false:=by simp;omega
   have H:=h_ C;clear C
   go_upto_region 7 with fail
   go_cut [10] (fun K wx=>Hid (wx.ownsRow w.heap.size TB 2 K p.2.length (p.2.flatMap iM))/\Hid (Below w.heap.size w wx)/\Hid (wx.heap[w.heap.size+1]?=some (.cells #[.pointer (some ⟨b,0,none⟩),.slice ea p.2.length m] VQ (0,0))))
   case first =>
    by_cases hz:p.2.length=0
    ·have HZ:=h_ (e_ hz);have dw:wc.cell? ⟨w.heap.size+1,1,none⟩=some (.slice ea 0 m):=by rw [x1,hz]
     clear x1 hz;go_wp2_with (first | (at_builtin;refine dG rfl _ _ 94 rfl 249 i0 underlying94 ab ea m rfl rfl ?_))
     go_meet
     exact⟨by rw [HZ.out];exact World.ownsRow_nil _ _ _ _,y,G⟩
    ·obtain⟨ge,oe,rfl,ch,_,bg⟩:=Sl.cell cc (by omega);have Y:∀(j:Nat)(u:Value),(p.2.flatMap iM)[j]?=some u->wc.cell? ((⟨ge,oe,none⟩:Addr).add j)=some u:=fun j u hu=>by rw [Addr.add_lit];exact(y.cell (p:=⟨ge,oe+j,none⟩) ch).trans (bg j u hu)
     have ci:=h_ Y;have Z:=y.size;clear bg Y;go_wp2_with (first | (at_builtin;refine wpList_append_lies _ rfl _ _ 94 rfl w.heap.size 249 i0 _ 2 24 underlying94 ab ay az ba rfl (by decide) (.slice none 0 0) 0 [] rfl (World.ownsRow_nil _ _ _ _) ⟨ge,oe,none⟩ p.2.length m (p.2.flatMap iM) rfl (wM p.2) ci (by intro u hu;obtain⟨bb,_,bh⟩:=List.mem_flatMap.1 hu;simp only [iM,List.mem_cons,List.not_mem_nil,or_false] at bh;rcases bh with rfl | rfl<;>rfl) (by omega) (by unfold maxLen;omega) (by omega) Z wc.heap.size rfl ?_;intro g3 bi w3 z n bj bk));have bl:=h_ (cS n)
     go_meet
     refine⟨show World.ownsRow _ _ TB _ _ _ _ from(by have h:=z;simp only [Nat.zero_add,List.nil_append] at h;exact h),y.trans (bl.mono Z),(bl.block _ (aB G)).trans G⟩
   case rest =>
    obtain⟨cj,cl,cm⟩:=hcut;clear x0 x1 cf G y;have cn:=h_ (NA.start be cl);go_wp2_with fail
    go_loopw [10,11] (fun K iv wr=>∃(j:Nat)(A:Value),j<=l.length/\iv=.int .i64 j/\Hid (NA w wr wb W pv (.slice (some ⟨gq,0,none⟩) W.procs.length q) cv lv gv qs cs (l.take j) A)/\Hid (wr.ownsRow w.heap.size TB 2 K (p.2.length+j) ((p.2++Pl.C1 (p.1.ns.take j) W.places.length).flatMap iM))/\Hid (wr.heap[w.heap.size+1]?=some (.cells #[.pointer (some ⟨b,0,none⟩),.slice ea p.2.length m] VQ (0,0)))) (fun _ iv _=>l.length-(intOf iv).toNat)
    case atStart=>exact⟨0,lv,Nat.zero_le _,rfl,by simpa [Hid] using cn.out,by simpa [Hid,Pl.C1] using cj.out,cm⟩
    case round =>
     obtain⟨j,A,hj,rfl,HJ,P,Q⟩:=hrel;have f:∀k d:Nat,k<w.heap.size->¬M k->wr.cell? ⟨k,d,none⟩=w.cell? ⟨k,d,none⟩:=fun k d N hm=>World.cell?_of_block (HJ.done.2.block k N (by rw [<- HM.out];exact hm)).1;have x0:wr.cell? ⟨w.heap.size+1,0,none⟩=some (.pointer (some ⟨b,0,none⟩)):=aA Q 0;have bm:¬M b:=HW.notM ag (by decide);have bn:=P.1;have bo:=aB Q;by_cases co:j<l.length
     ·obtain⟨v,hv⟩:∃v,l[j]?=some v:=⟨_,g_ co⟩
      obtain⟨nm,ai⟩:∃nm,p.1.ns[j]?=some nm:=⟨_,g_ (by have:=H.out;omega)⟩
      obtain⟨ga,oa,e1,aj,ak,R⟩:=Sl.cell HA (by omega);have e1:aa=some ⟨ga,oa,none⟩:=e1;subst e1;have a0:=(f ga (oa+j*3) aj ak).trans (R (j*3) _ (aX cZ 3 (fun _=>rfl) l j 0 v hv (by decide)));have a1:=(f ga (oa+(j*3+1)) aj ak).trans (R (j*3+1) _ (aX cZ 3 (fun _=>rfl) l j 1 v hv (by decide)));have a2:=(f ga (oa+(j*3+2)) aj ak).trans (R (j*3+2) _ (aX cZ 3 (fun _=>rfl) l j 2 v hv (by decide)));rw [<- Nat.add_assoc] at a1 a2;unfold AM at a0 a2;have cp:Hid (bT v=.agg #[.string ⟨(vK v).toArray⟩,.int .i64 (vN v),.string ⟨(vS v).toArray⟩]):=rfl;have dd:(j:Int)<(l.length:Int):=by omega
      have cq:Hid (l.take (j+1)=l.take j++[v]):=show l.take (j+1)=_ from by rw [List.take_add_one,hv];rfl
      have cr:Hid (Pl.C1 (p.1.ns.take (j+1)) W.places.length=Pl.C1 (p.1.ns.take j) W.places.length++[(nm,W.places.length+j)]):=show Pl.C1 (p.1.ns.take (j+1)) W.places.length=_ from by rw [List.take_add_one,ai];have de:=H.out;have:=vM (p.1.ns.take j) nm W.places.length;rw [List.length_take,Nat.min_eq_left (by omega)] at this;exact this
      have ct:=h_ ai;have bp:(l.take j).length=j:=by rw [List.length_take];omega
      have bq:=h_ bp;clear R hv ai bp bn f;generalize vK v=kk at *;generalize vN v=nn at *;generalize vS v=ss at *;go_wp2_with fail;rw [<- cp.out];refine(rW w wr wb W pv _ cv lv gv qs cs (l.take j) A v HJ (by rw [bq.out];omega)).mono ?_;rintro e I ⟨rfl,br,bs,df,al,bt⟩;rw [bq.out];have am:Hid (NA w I wb W pv (.slice (some ⟨gq,0,none⟩) W.procs.length q) cv lv gv qs cs (l.take (j+1)) br):=show NA _ _ _ _ _ _ _ _ _ _ _ _ _ from by rw [cq.out];exact bs
      have D:Hid (I.ownsRow w.heap.size TB 2 u10 (p.2.length+j) ((p.2++Pl.C1 (p.1.ns.take j) W.places.length).flatMap iM)):=xO P (fun k T h1 O=>al k (aB O) (fun e=>by subst e;exact absurd (aK O HJ.blk).2 (by decide)) (fun e=>by obtain⟨c,hc⟩:=aN HJ.row k e;exact absurd (aK O hc).2 (by decide)));have U:Hid (I.heap[w.heap.size+1]?=some (.cells #[.pointer (some ⟨b,0,none⟩),.slice ea p.2.length m] VQ (0,0))):=(al _ bo (by omega) (fun e=>by obtain⟨c,hc⟩:=aN HJ.row _ e;exact absurd (aK Q hc).2 (by decide))).trans Q;have s:∀k d:Nat,k<w.heap.size->¬M k->I.cell? ⟨k,d,none⟩=w.cell? ⟨k,d,none⟩:=fun k d N hm=>World.cell?_of_block (am.done.2.block k N (by rw [<- HM.out];exact hm)).1;have y0:I.cell? ⟨w.heap.size+1,0,none⟩=some (.pointer (some ⟨b,0,none⟩)):=aA U 0;have y4:I.cell? ⟨b,4,none⟩=some (.slice na p.1.ns.length X):=(s b 4 ah bm).trans (aA ag 4);obtain⟨gn,dx,e2,_,⟨dg,bu⟩,bv⟩:=row1 cd (by have:=H.out;omega);simp only [Value.slice.injEq] at e2;obtain⟨rfl,_,rfl⟩:=e2;have yn:I.cell? ⟨gn,j,none⟩=some (.string ⟨nm.toArray⟩):=(s gn j (aB bu) (HW.notM bu (by decide))).trans (bv j (AM nm) (by rw [List.getElem?_map,ct.out];rfl));have dh:(j:Int)<(p.1.ns.length:Int):=by have:=H.out;omega
      have dy:p.2.length+j<=200000000:=by omega
      have dz:w.heap.size<=I.heap.size:=by omega
      have cu:=aB U;clear bs al bt s bv a0 a1 a2 x0;go_wp2_with (first | (at_builtin;refine wpList_append_lies _ rfl _ _ 94 rfl w.heap.size 249 i0 _ 2 24 underlying94 ab ay az ba rfl (by decide) u10 (p.2.length+j) ((p.2++Pl.C1 (p.1.ns.take j) W.places.length).flatMap iM) rfl (D.alloc _) ⟨I.heap.size,0,none⟩ 1 1 (iM (nm,W.places.length+j)) rfl rfl (World.news_of_block (cs:=#[AM nm,.int .i64 (W.places.length+j:Nat)]) (t:=249) (fr:=(0,0)) (heap_alloc_new I _)) (by simp [Value.oneCell',iM,AM]) (by decide) (by unfold maxLen;omega) (by omega) (by simp;omega) (I.heap.size+1) (by simp) ?_;intro g3 bi w3 z n bj bk))
      go_roundw
      case rel =>
       refine⟨j+1,br,by omega,by go_num,?_,?_,?_⟩
       ·refine(am.later b_).grown n (fun k N=>⟨(D.lt k N).1,fun e=>?_⟩);obtain⟨c1,an⟩:=aN am.row k e;obtain⟨c2,ap⟩:=aN D k N;exact absurd (aK an ap).2 (by decide)
       ·have this:World.ownsRow w3 w.heap.size TB 2 _ _ _:=z;show World.ownsRow _ _ TB _ _ _ _;rw [cr.out,<-List.append_assoc,List.flatMap_append,<-Nat.add_assoc];simpa using this
       ·rw [n.block _ (by simp;omega) (fun e=>?_)]
        ·exact(Below.heap_alloc I _ _ cu).trans U
        ·obtain⟨c2,ap⟩:=aN D _ e.symm;exact absurd (aK ap U).2 (by decide)
      case measure=>simp [intOf];omega
     ·have cw:j=l.length:=by omega
      subst cw;obtain⟨aq,bw⟩:=HJ.done;rw [List.take_length] at aq;have bx:p.1.ns.take l.length=p.1.ns:=List.take_of_length_le (by have:=H.out;omega);have E:=P.out;rw [bx] at E;have cx:Hid (RW wr wb (CQ wb [pv,.slice (some ⟨gq,0,none⟩) W.procs.length q,cv,A,gv]) {W with places:=W.places++l}):=⟨_,_,_,_,_,_,_,rfl,aq⟩
      have ar:Hid (Stp M w (CQ wb [pv,.slice (some ⟨gq,0,none⟩) W.procs.length q,cv,A,gv]) wr):=show Stp _ _ _ _ from by rw [HM.out];exact bw
      have bz:Hid (DF (CQ wb [pv,.slice (some ⟨gq,0,none⟩) W.procs.length q,cv,A,gv]) wr u10 (p.2++Pl.C1 p.1.ns W.places.length)):=by
       have hl:(p.2++Pl.C1 p.1.ns W.places.length).length=p.2.length+l.length:=by rw [a_,qX,H.out]
       show Sl _ _ _ _ _ _ _;rw [hl];obtain⟨s0,ao,au,e1,e2,e3⟩:=gT ((fun h=>⟨h.1,h.2.imp id (fun⟨g,au,T,a,_,c⟩=>⟨g,au,T,a,Nat.zero_le _,c⟩)⟩:_->wr.ownsRow 0 TB 2 u10 (p.2.length+l.length) ((p.2++Pl.C1 p.1.ns W.places.length).flatMap iM)) E);refine⟨s0,ao,au,e1,e2,e3.imp id ?_⟩;rintro⟨g,d,T,rfl,_,hg,hc⟩;refine⟨g,d,T,rfl,?_,hg,hc⟩;have cy:=(E.lt g (by rw [e1];rfl)).1;refine jM be (sl:=A) (by intro x hx;simp only [List.mem_cons,List.not_mem_nil,or_false] at hx ⊢;rcases hx with rfl | rfl | rfl | rfl | rfl<;>simp) cy (fun e=>?_);obtain⟨c1,an⟩:=aN HJ.row g e;exact absurd (aK an hg).2 (by decide)
      obtain⟨u0,cz⟩:∃u0,us=[u0]:=by
       have:=bf.1;rw [af] at this
       match us,this with
       | [a],_=>exact⟨a,rfl⟩
      subst cz
      obtain⟨r,B⟩:∃r,p.1.ks=[r]:=by
       match h:p.1.ks,af with
       | [a],_=>exact⟨a,rfl⟩
      have aw:=bf.out;rw [af] at aw;obtain⟨gk,ck,rfl,eb,⟨di,ax⟩,F⟩:=row1 aw (by decide);have z3:wr.cell? ⟨b,3,none⟩=some (.slice (some ⟨gk,0,none⟩) 1 ck):=(f b 3 ah bm).trans (aA ag 3);have zk:wr.cell? ⟨gk,0,none⟩=some u0:=(f gk 0 (aB ax) (HW.notM ax (by decide))).trans (F 0 u0 rfl);have L:Hid (RF wr u0 r):=(ce 0 u0 r rfl (by rw [B];rfl)).keep (ar.MD HW.X5);have da:Hid (AH W S (.proc i) l=⟨0,{W with places:=W.places++l},S.work (some r) (p.2++Pl.C1 p.1.ns W.places.length)⟩):=show _=_ from by rw [HE.out,B];rfl
      have db:=h_ (HS.AQ HW ar);obtain⟨ob,rfl⟩:∃ob,u0=.pointer (some ⟨ob,0,none⟩):=by obtain⟨ob,_,_,_,_,_,_,_,e,_⟩:=L.open_;exact⟨ob,e⟩
      clear aq bw E bx aw F ax B f bn P;go_wp2_with fail;refine(cP _ wb xb _ _ S r _ _ _ cx db L bz).mono ?_;rintro e w6 ⟨rfl,h1,O,h3⟩;have H1:=h_ h1;have H2:=h_ O;have H3:=h_ h3;clear h1 O h3;go_wp2_with fail;go_ret;rw [da.out];exact⟨rfl,_,H1,(ar.mx xb).trans H3,fun _=>H2.out⟩
  ·rw [if_pos (by simpa using C)] at HE;have cg:((l.length:Int)!=(p.1.ns.length:Int))=true:=by simp;omega
   go_wp2_with fail
   go_ret;rw [HE.out];exact⟨rfl,M,HW.later y,(Stp.AA y).mx xb,fun h=>by simp at h⟩
theorem xV(d:AY)(w:World)(wb b:Nat)(M:Nat->Prop)(W:PW)(S:PS)(s:AE)(c:Value)(l:List PV)(o:s∈AO)(n:s≠AU)(f:RW w wb M W)(g:RS M w b S)(i:Gs w (Mx M b))(j:CO M w c l)(k:∀v∈l,BL W v)(m:L2 W)(a:l.length<=1000) :Calls prog 175 #[.pointer (some ⟨wb,0,none⟩),.pointer (some ⟨b,0,none⟩),.string ⟨s.toArray⟩,c] w fun e p=>F9 M w wb b (AH W S (.AZ s) l) e p:=by
 simp only [AO,List.mem_cons,List.not_mem_nil,or_false] at o;rcases o with h | h | h | h | h | h | h | h | h | h | h | h | h
 ·exact cN d w wb b M W S s c l (.inl h) f g i j k m a
 ·exact cN d w wb b M W S s c l (.inr (.inl h)) f g i j k m a
 ·exact cN d w wb b M W S s c l (.inr (.inr (.inl h))) f g i j k m a
 ·exact cN d w wb b M W S s c l (.inr (.inr (.inr (.inl h)))) f g i j k m a
 ·exact cN d w wb b M W S s c l (.inr (.inr (.inr (.inr (.inl h))))) f g i j k m a
 ·exact rV d w wb b M W S s c l h f g i j k m a
 ·exact gQ d w wb b M W S s c l (.inl h) f g i j k m a
 ·exact gQ d w wb b M W S s c l (.inr (.inl h)) f g i j k m a
 ·exact cN d w wb b M W S s c l (.inr (.inr (.inr (.inr (.inr (.inl h)))))) f g i j k m a
 ·exact cN d w wb b M W S s c l (.inr (.inr (.inr (.inr (.inr (.inr h)))))) f g i j k m a
 ·exact rU d w wb b M W S s c l h f g i j k m a
 ·exact gQ d w wb b M W S s c l (.inr (.inr h)) f g i j k m a
 ·exact absurd h n
theorem Sl.typ{M:Nat->Prop}{g off cap m:Nat}(h:Sl M w T sz (.slice (some ⟨g,off,none⟩) n cap) m xs)(j:0<m):∃a,w.heap[g]?=some (.cells a T (0,0)):=by
 obtain⟨_,k,b,e,_,c⟩:=h;simp only [Value.slice.injEq] at e;obtain⟨rfl,rfl,rfl⟩:=e;rcases c with c | ⟨l,d,a,f,_,i,_⟩
 ·omega
 ·simp only [o_,Addr.mk.injEq,and_true] at f;obtain⟨rfl,rfl⟩:=f;exact⟨a,i⟩
theorem DT.ptr{M:Nat->Prop}{a:List CW}(h:DT M w v a):∃c,v=.pointer c:=by
 cases a with
 | nil=>exact⟨none,h⟩
 | cons f r=>obtain⟨b,_,_,_,_,e,_⟩:=h;exact⟨_,e⟩
theorem cn_at{wb:Nat}{W:PW}{pv qv cv lv gv:Value}{qs cs:List Value}(h:EV w wb W pv qv cv lv gv qs cs){i:Nat}{c:List CW}(hp:W.AG[i]?=some c):∃g a u,cv=.slice (some ⟨g,0,none⟩) W.AG.length a/\W.AG.length<=a/\g<w.heap.size/\w.cell? ⟨g,i,none⟩=some u/\DT (CQ wb [pv,qv,cv,lv,gv]) w u c:=by
 have m:=(s_ hp).1;obtain⟨u,d,f⟩:=h.cns i c hp;rcases h.cn.2 with⟨_,n⟩ | ⟨g,a,j,e,_,k,l,_⟩
 ·omega
 ·have b:=h.cn.cells (g:=g) (by rw [e];rfl);refine⟨g,a,u,e,l,aB k,?_,f⟩;have:=b _ _ d;rwa [Addr.add_lit,Nat.zero_add] at this
theorem otherB(W:PW)(S:PS)(f:PV)(l:List PV)(a:∀i,f≠.proc i)(b:∀i,f≠.cont i)(c:∀s,f≠.AZ s):AH W S f l=⟨9,W,S⟩/\(vK f==s5)=false/\(vK f==pJ)=false/\(vK f==pH)=false:=by
 cases f with
 | proc i=>exact absurd rfl (a i)
 | cont i=>exact absurd rfl (b i)
 | AZ s=>exact absurd rfl (c s)
 | _=>exact⟨rfl,rfl,rfl,rfl⟩
theorem contB(W:PW)(S:PS)(i:Nat)(b:List CW)(a:PV)(h:W.AG[i]?=some b):AH W S (.cont i) [a]=⟨0,W,{S with AB:=b}.A1 a⟩:=by show(⟨0,W,{S with AB:=W.AG[i]?.getD []}.A1 a⟩:SR)=_;rw [h];rfl
theorem contN(W:PW)(S:PS)(i:Nat)(l:List PV)(h:¬l.length=1):AH W S (.cont i) l=⟨10,W,S⟩:=by
 match l,h with
 | [],_=>rfl
 | _::_::_,_=>rfl
theorem rZ(hI:AY)(w:World)(wb b:Nat)(M:Nat->Prop)(W:PW)(S:PS)(f:PV)(J:Value)(l:List PV)(m:f≠.AZ AU)(x:RW w wb M W)(E:RS M w b S)(K:Gs w (Mx M b))(n:CO M w J l)(B:BL W f)(L:∀v∈l,BL W v)(N:L2 W)(O:l.length<=1000)(P:W.places.length<=100000000)(C:∀p∈W.procs,p.2.length<=100000000) :Calls prog 131 #[.pointer (some ⟨wb,0,none⟩),.pointer (some ⟨b,0,none⟩),bT f,J] w fun e w'=>F9 M w wb b (AH W S f l) e w':=by
 by_cases I:∃i,f=.proc i
 ·obtain⟨i,rfl⟩:=I;exact xU w wb b M W S i J l x E n B O P C
 have c:Hid (∀o:Obj,Below w.heap.size w (w.alloc o)):=fun o=>b_;by_cases Q:∃s,f=.AZ s
 ·obtain⟨s,rfl⟩:=Q;have HC:Hid (∀o:Obj,Calls prog 175 #[.pointer (some ⟨wb,0,none⟩),.pointer (some ⟨b,0,none⟩),.string ⟨s.toArray⟩,J] (w.alloc o) fun e w'=>F9 M (w.alloc o) wb b (AH W S (.AZ s) l) e w'):=fun o =>xV hI (w.alloc o) wb b M W S s J l B (fun e=>m (by rw [e])) (x.later (c o)) (E.later x (c o)) (K.below (c o)) (n.AQ (Stp.AA (c o))) L N O;obtain⟨aa,D,rfl,R⟩:=n.shape;clear m x E K n B L N C I;generalize AH W S (.AZ s) l=r at *;unfold bT AM vK vN vS pH;go_enter func131,ntmps131;go_wp2_with fail;refine(HC _).mono ?_;rintro e w1 hr;have HR:Hid _:=F9.pre (c _) hr;obtain⟨rfl,_⟩:=hr;go_wp2_with fail;go_ret;exact⟨rfl,HR.2⟩
 by_cases hc:∃i,f=.cont i
 ·obtain⟨i,rfl⟩:=hc;have HW:=h_ x;have HS:=h_ E;by_cases y:l.length=1
  ·obtain⟨a,rfl⟩:=jK y;obtain⟨T,F⟩:∃T,W.AG[i]?=some T:=⟨_,g_ B⟩
   have U:Hid _:=contB W S i T a F;obtain⟨pv,qv,cv,lv,gv,qs,cs,hM,z⟩:=x;obtain⟨gc,V,u,rfl,ai,ak,du,A⟩:=cn_at z F;rw [<- hM] at A;obtain⟨t,rfl⟩:=A.ptr;have ab:=h_ A;obtain⟨g,q,al,rfl,aj,hg,_,k0,k1,k2⟩:=ZM n;obtain⟨fv,ev,c0,c1,c2,ac,d,s1,s2,s3⟩:=E;have ad:=aB d;have am:=aB z.blk;have q2:w.cell? ⟨wb,2,none⟩=some (.slice (some ⟨gc,0,none⟩) W.AG.length V):=aA z.blk 2;have an:(i:Int)<(W.AG.length:Int):=by have:i<W.AG.length:=B;omega
   have qA:∀(o:Obj)(k q:Nat),k<w.heap.size->(w.alloc o).cell? ⟨k,q,none⟩=w.cell? ⟨k,q,none⟩:=fun o k q hk=>(r_.alloc n_ o).cell (p:=⟨k,q,none⟩) hk;have x5:w.cell? ⟨b,5,none⟩=some ac:=aA d 5;have fA:∀(o:Obj),(w.alloc o).frozen? ⟨b,5,none⟩=false:=fun o=>aF ((Below.heap_alloc w o b ad).trans d) 5;have ae:Hid ((w.setCell ⟨b,5,none⟩ (.pointer t)).heap[b]?=some (.cells #[fv,ev,c0,c1,c2,.pointer t] JL (0,0))):=aD d 5 _;have G:Hid (w.grownBy (w.setCell ⟨b,5,none⟩ (.pointer t)) (some b)):=aE _ _ _ _;have af:Hid (RS M (w.setCell ⟨b,5,none⟩ (.pointer t)) b {S with AB:=T}):=RS.grown (S:={S with AB:=T}) G d ae s1 s2 ab rfl;have X:Hid (RW (w.setCell ⟨b,5,none⟩ (.pointer t)) wb M W):=HW.grown G d eC;have Y:Hid (Stp (Mx M b) w (Mx M b) (w.setCell ⟨b,5,none⟩ (.pointer t))):=bV G;have H:Hid (∀o:Obj,Below (w.setCell ⟨b,5,none⟩ (.pointer t)).heap.size (w.setCell ⟨b,5,none⟩ (.pointer t)) ((w.setCell ⟨b,5,none⟩ (.pointer t)).alloc o).drew):=fun o=>cM _ o
   have kA:∀(o:Obj)(j:Nat),((w.setCell ⟨b,5,none⟩ (.pointer t)).alloc o).cell? ⟨g,j,none⟩=w.cell? ⟨g,j,none⟩:=fun o j=>by
    have Z:g≠b:=by rintro rfl;obtain⟨ao,ag⟩:=Sl.typ n Nat.zero_lt_one;exact absurd (aK ag d).2 (by decide)
    apply World.cell?_of_block;rw [k_ (by simp [World.setCell];exact hg),Below.heap_setCell _ _ _ _ (fun e=>Z (by simpa using e))]
   clear m K B L N P C I Q y F hM z A n d s1 s2 s3;have ah:Hid (bT a=.agg #[.string ⟨(vK a).toArray⟩,.int .i64 (vN a),.string ⟨(vS a).toArray⟩]):=rfl;generalize vK a=ka at *;generalize vN a=na at *;generalize vS a=sa at *;unfold bT AM vK vN vS pJ;go_enter func131,ntmps131;go_wp2_with fail
   go_region
   all_goals
    go_wp2_with fail
    rw [<- ah.out];refine(aT _ wb b M W _ a (X.later (H _)) (af.later X (H _))).mono ?_;rintro e w6 ⟨rfl,P,C,h3⟩;have H1:=h_ P;have H2:=h_ C;have H3:=h_ h3;clear P C h3;go_wp2_with fail;go_ret;rw [U.out];exact⟨rfl,M,H1,(Y.trans ((Stp.AA (H _)).mx b)).trans H3,fun _=>H2.out⟩
  ·have U:Hid _:=contN W S i l y;obtain⟨aa,D,rfl,R⟩:=n.shape;have Z:((l.length:Int)!=1)=true:=by simp;omega
   clear m x E K n B L N C I Q y;unfold bT AM vK vN vS pJ;go_enter func131,ntmps131;go_wp2_with fail;go_ret;rw [U.out];exact⟨rfl,M,HW.later (c _),(Stp.AA (c _)).mx b,fun h=>by simp at h⟩
 ·obtain⟨hE,b1,b2,b3⟩:=otherB W S f l (fun i e=>I ⟨i,e⟩) (fun i e=>hc ⟨i,e⟩) (fun i e=>Q ⟨i,e⟩);have U:=h_ hE;have HW:=h_ x;obtain⟨aa,D,rfl,R⟩:=n.shape;clear m x E K n B L N C I Q hc hE;unfold bT AM;unfold s5 at b1;unfold pJ at b2;unfold pH at b3;generalize vK f=kf at *;generalize vN f=nf at *;generalize vS f=sf at *;go_enter func131,ntmps131;go_wp2_with fail;go_ret;rw [U.out];exact⟨rfl,M,HW.later (c _),(Stp.AA (c _)).mx b,fun h=>by simp at h⟩
theorem qJ(w:World)(wb d:Nat)(M:Nat->Prop)(W:PW)(S:PS)(fr:CW)(l m n:Value)(o:Option Addr)(p:Int)(A:RW w wb M W)(B:RS M w d S)(q:RF w l fr.form)(r:CO M w m fr.B8)(s:DF M w n fr.env)(C:S.AB.length<=1000000000) :Calls prog 90 #[.pointer (some ⟨d,0,none⟩),.agg #[l,m,.int .i64 fr.pos,n,.pointer o,.int .i64 p]] w fun e f=>e=.returned (.tuple #[])/\RW f wb M W/\RS M f d (S.push fr)/\Stp (Mx M d) w (Mx M d) f/\IX w f:=by obtain⟨g,h,t,u,v,i,j,D,E,x⟩:=B;obtain⟨b,_,_,_,_,_,_,_,rfl,_⟩:=q.open_;obtain⟨F,y,rfl,_⟩:=r.shape;obtain⟨G,z,rfl,_⟩:=s.shape;refine(lI M w d g h t u v i S.AB _ F G o _ _ _ _ _ p j x C).mono ?_;rintro e f ⟨rfl,a,k,H⟩;have c:Kp M w M f:=eV a j eC.2.2.2.2.2.2 (by decide) (by decide);refine⟨rfl,A.grown a j eC,⟨g,h,t,u,v,_,k,D.keep c.im,E.kp c (.inl rfl),?_⟩,bV a,c.im⟩;exact⟨w.heap.size,_,_,_,_,rfl,H,q.keep c.im,r.kp c (.inr rfl),s.kp c (.inl rfl),DT.kp c _ _ x⟩
theorem pQ(M:Nat->Prop)(w:World):CO M w (.slice none 0 0) []:=⟨rfl,none,0,rfl,n_,.inl rfl⟩
def CL(M:Nat->Prop)(w:World)(wb xb:Nat)(W:PW)(S:PS):Ending->World->Prop:=F9 M w wb xb (Pl.step W S)
structure WfS(W:PW)(S:PS):Prop where
 env:LG W S.env
 G1:S.env.length<=100000000
 fr:S.AB.length<=100000000
structure WfG(W:PW):Prop where
 gl:LG W W.globals
 glL:W.globals.length<=100000000
 plL:W.places.length<=100000000
 prL:W.procs.length<=100000000
theorem kF(w:World)(wb c:Nat)(M:Nat->Prop)(W:PW)(S:PS)(f:PF)(k:S.form=some f)(i:f.k=.const)(t:RW w wb M W)(u:RS M w c S) :Calls prog 54 #[.pointer (some ⟨wb,0,none⟩),.pointer (some ⟨c,0,none⟩)] w fun e A=>CL M w wb c W S e A:=by
 have B:=h_ t;have C:=h_ u;have D:Hid (Pl.step W S=⟨0,W,S.A1 f.v⟩):=show Pl.step W S=_ from by unfold Pl.step;rw [k];dsimp only;rw [i]
 obtain⟨N,O,P,Q,R,E,a,j,l,F⟩:=u;simp only [JN,k] at j;obtain⟨b,T,U,V,X,Y,Z,us,rfl,d,m,n,o,g,p,q,r⟩:=j.open_;have HF:=h_ j;have G:=h_ l;obtain⟨H,h,rfl,I⟩:=l.shape;have x0:w.cell? ⟨c,0,none⟩=some (.pointer (some ⟨b,0,none⟩)):=aA a 0;have x1:w.cell? ⟨c,1,none⟩=some (.slice H S.env.length h):=aA a 1;rw [i] at d;have v:=g i;simp only [cZ,List.cons.injEq,and_true] at v;obtain⟨rfl,rfl,rfl⟩:=v;have b0:w.cell? ⟨b,0,none⟩=some (.string ⟨#[99,111,110,115,116]⟩):=aA d 0;have b5:w.cell? ⟨b,5,none⟩=some (.string ⟨(vK f.v).toArray⟩):=aA d 5;have b6:w.cell? ⟨b,6,none⟩=some (.int .i64 (vN f.v)):=aA d 6;have b7:w.cell? ⟨b,7,none⟩=some (.string ⟨(vS f.v).toArray⟩):=aA d 7;have s:Hid (bT f.v=.agg #[.string ⟨(vK f.v).toArray⟩,.int .i64 (vN f.v),.string ⟨(vS f.v).toArray⟩]):=rfl;clear k i t a j l F d m n o g p q r;generalize vK f.v=kk at *;generalize vN f.v=nn at *;generalize vS f.v=ss at *;go_enter func54,ntmps54;go_wp2_with fail;rw [<- s.out];refine(aT _ wb c M W S f.v B C).mono ?_;rintro e w2 ⟨rfl,x,y,z⟩;have J:=h_ x;have K:=h_ y;have L:=h_ z;clear x y z;go_wp2_with fail;go_ret;unfold CL;rw [D.out];exact⟨rfl,M,J,L,fun _=>K.out⟩
theorem oL{W:PW}{env:Env}{s:AE}{k:Nat}(d:LG W env)(e:LG W W.globals)(h:Pl.DL W env s=some k):k<W.places.length:=by
 unfold Pl.DL at h
 cases a:Pl.find env s with
 | some j =>rw [a] at h;obtain rfl:=i_ h;obtain⟨b,c,rfl⟩:=H9 _ _ _ a;exact d b c
 | none =>rw [a] at h;obtain⟨b,c,rfl⟩:=H9 _ _ _ h;exact e b c
theorem lH(w:World)(wb c:Nat)(M:Nat->Prop)(W:PW)(S:PS)(f:PF)(r:S.form=some f)(s:f.k=.name)(K:RW w wb M W)(L:RS M w c S)(o:WfG W)(t:WfS W S) :Calls prog 54 #[.pointer (some ⟨wb,0,none⟩),.pointer (some ⟨c,0,none⟩)] w fun e N=>CL M w wb c W S e N:=by
 have u:=h_ K;have T:=h_ L;have j:Hid (Pl.step W S=match Pl.DL W S.env f.nm with | some k=>⟨0,W,S.A1 (W.places[k]?.getD .nothing)⟩ | none=>⟨8,W,S⟩):=show Pl.step W S=_ from by unfold Pl.step;rw [r];dsimp only;rw [s];rfl
 have U:=o.glL;have V:=o.plL;have X:=t.G1;have v:Hid (∀k,Pl.DL W S.env f.nm=some k->k<W.places.length):=fun k h=>oL t.env o.gl h;obtain⟨fv,ev,c0,c1,c2,Y,d,p,y,Z⟩:=L;simp only [JN,r] at p;obtain⟨b,dv,kv,nv,d0,d1,d2,us,rfl,q,z,A,B,C,D,E,F⟩:=p.open_;have HF:=h_ p;have G:=h_ y;obtain⟨ea,l,rfl,aa⟩:=y.shape;have x0:w.cell? ⟨c,0,none⟩=some (.pointer (some ⟨b,0,none⟩)):=aA d 0;have x1:w.cell? ⟨c,1,none⟩=some (.slice ea S.env.length l):=aA d 1;rw [s] at q;have b0:w.cell? ⟨b,0,none⟩=some (.string ⟨#[110,97,109,101]⟩):=aA q 0;have b1:w.cell? ⟨b,1,none⟩=some (.string ⟨f.nm.toArray⟩):=aA q 1;clear r s K d p y Z q z A B C D E F o t;go_enter func54,ntmps54
 go_upto_region 10 with fail
 go_cut [6] (fun k6 wx=>k6=.int .i64 (fW (Pl.DL W S.env f.nm))/\wx=w.drew)
 case first =>
  go_region_with (go_at_call 89;refine(qH w.drew wb M M W _ S.env f.nm (u.later r_.drew) (G.AQ (Stp.AA r_.drew)) (by omega) (by omega)).mono ?_;rintro e N ⟨rfl,rfl⟩)
  all_goals
   go_wp2_with fail
   go_meet
   exact⟨rfl,rfl⟩
 case rest =>
  obtain⟨rfl,rfl⟩:=hcut;have g:Hid (RW w.drew wb M W):=u.later r_.drew;have H:Hid (RS M w.drew c S):=T.later u r_.drew
  cases a:Pl.DL W S.env f.nm with
  | none =>rw [a] at j;simp only [show fW none=(-1:Int) from rfl];clear a;go_wp2_with fail;go_ret;unfold CL;rw [j.out];exact⟨rfl,M,g,(Stp.AA r_.drew).mx c,fun h=>by simp at h⟩
  | some k =>
   rw [a] at j;have m:=v.out k a;obtain⟨pv,qv,cv,lv,gv,qs,cs,hM,i⟩:=g.out;obtain⟨gp,n,rfl,ab,ac,_,x,O,p0,p1,p2,_⟩:=S3 i m;have c3:w.drew.cell? ⟨wb,3,none⟩=some (.slice (some ⟨gp,0,none⟩) W.places.length n):=aA i.blk 3;have I:Hid (Pl.step W S=⟨0,W,S.A1 x⟩):=show _=_ from by rw [j.out];dsimp only;rw [O];rfl
   have ad:(k:Int)<(W.places.length:Int):=by omega
   simp only [d6];have J:Hid (bT x=.agg #[.string ⟨(vK x).toArray⟩,.int .i64 (vN x),.string ⟨(vS x).toArray⟩]):=rfl;unfold AM at p0 p2;clear a m hM i O j;generalize vK x=kk at *;generalize vN x=nn at *;generalize vS x=ss at *;go_wp2_with fail;rw [<- J.out];refine(aT _ wb c M W S x g H).mono ?_;rintro e w2 ⟨rfl,P,Q,R⟩;have H1:=h_ P;have H2:=h_ Q;have H3:=h_ R;clear P Q R;go_wp2_with fail;go_ret;unfold CL;rw [I.out];exact⟨rfl,M,H1,((Stp.AA r_.drew).mx c).trans H3,fun _=>H2.out⟩
end
end Go.Proofs.YtkgbdddkcjpgfaaGreatDoor
