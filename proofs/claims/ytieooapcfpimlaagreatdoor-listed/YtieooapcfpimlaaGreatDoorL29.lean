import Derived.Test.YtieooapcfpimlaaGreatDoorL28
import Derived.Test.YtieooapcfpimlaaGreatDoorL23
namespace Go.Proofs.YtieooapcfpimlaaGreatDoor
set_option maxHeartbeats 4000000
set_option maxRecDepth 100000
open Go.Proofs.Tryz
open Pl (PV PW PS PF CW SR AE)
section
open Go.RowKit Go.Lib Go.Maps
variable {w:World} {M:Nat->Prop}
theorem FD.vs{s:Sg}{v:Value}{l:List PV}(h:FD M w s v l):∃a,DB w v a/\BY (RV s) a l:=by obtain⟨a,b,c⟩:=h;exact⟨a,Sl.C7 b,c⟩
theorem oJ{w':World}{v:Value}{vs:List Value}(h:DB w v vs)(c:Below w.heap.size w w'):DB w' v vs:=by obtain⟨e,b,f,j,k⟩:=h;refine⟨e,b,f,j,fun i u l=>?_⟩;obtain⟨g,a,m,d,n⟩:=k i u l;exact⟨g,a,m,l_ d c.size,(c.cell (p:=⟨g,a+i,none⟩) d).trans n⟩
theorem zK{s:Sg}{base g cap:Nat}{us:List Value}{l:List PV}(h:w.ownsRow base B9 1 (.slice (some ⟨g,0,none⟩) us.length cap) us.length us)(e:¬M g)(f:BY (RV s) us l):FD M w s (.slice (some ⟨g,0,none⟩) us.length cap) l:=by
 refine⟨us,⟨by simp,_,cap,rfl,?_,?_⟩,f⟩
 ·rcases h.2 with⟨a,_⟩ | ⟨j,c,b,a,_,_,k,_⟩
  ·cases a
  ·simp only [Value.slice.injEq] at a;obtain⟨_,_,rfl⟩:=a;exact k
 ·rcases h.2 with⟨a,_⟩ | ⟨j,c,b,a,_,m,_,_,_,n⟩
  ·cases a
  ·simp only [Value.slice.injEq,o_,Addr.mk.injEq,and_true] at a;obtain⟨rfl,_,rfl⟩:=a;refine .inr ⟨g,0,b,rfl,e,m,fun i u d=>?_⟩;rw [Nat.zero_add];rw [<- n,List.getElem?_take] at d;split at d
   ·simpa using d
   ·cases d
theorem o9{base g cap n:Nat}{us:List Value}(h:w.ownsRow base B9 1 (.slice (some ⟨g,0,none⟩) n cap) n us):base<=g/\n<=cap/\∃a:Array Value,w.heap[g]?=some (.cells a B9 (0,0))/\∀(i:Nat)(u:Value),us[i]?=some u->a[i]?=some u:=by
 rcases h.2 with⟨b,_⟩ | ⟨l,c,a,b,e,f,j,_,_,k⟩
 ·cases b
 ·simp only [Value.slice.injEq,o_,Addr.mk.injEq,and_true] at b;obtain⟨rfl,_,rfl⟩:=b;refine⟨e,j,a,f,fun i u d=>?_⟩;rw [<- k,List.getElem?_take] at d;split at d
  ·simpa using d
  ·cases d
def gZ(W:PW)(S:PS)(fr:CW)(q:PV):SR :=
 if fr.pos=fr.form.ks.length then match fr.B8++[q] with
  | []=>⟨9,W,S⟩
  | g::args=>Pl.apply W S g args
 else⟨0,W,(S.push {fr with B8:=fr.B8++[q],pos:=fr.pos+1}).work fr.form.ks[fr.pos]? fr.env⟩
theorem sA(M:Nat->Prop)(w:World)(s:Sg)(tb mb t Z j:Nat)(W:PW)(bp:Wf W)(S:PS)(hW:Wd M w s tb mb t Z W)(ak:S.AB.length<=6500000000000000000){fv ev0 gv kv ov ev rv vv:Value}(hr:C0 M w t j fv ev0 gv kv ov)(hf:GW M w s kv S.AB)(ho:DS M w ov W.out)(fr:CW)(he:CX M w s ev fr.env)(hk:fr.form.k=.call)(ag:fr.pos<=fr.form.ks.length)(al:FD M w s vv fr.B8)(bq:E3 M w s rv (fr.form.ks.drop fr.pos))(am:fr.B8.length<=1000)(an:∀v∈fr.B8,BL W v)(v:Value)(q:PV)(hv:RV s v q)(ap:BL W q) :Calls prog 295 #[.agg #[vv,rv,ev],.pointer (some ⟨j,0,none⟩),v] w fun e k=>AS M w s tb mb t Z j (gZ W S fr q) e k:=by
 obtain⟨h,bd,J⟩:=al.vs;obtain⟨F,be,aa⟩:=bq;have bf:=aB hr.blk;have O:∀u∈h,u.oneCell'=true:=fun u hu=>by obtain⟨i,hi⟩:=List.getElem?_of_mem hu;have br:=(s_ hi).1;exact(J.2 i u _ hi (g_ (by rw [<- J.1];exact br))).QL
 have aq:h.length<=1000:=by rw [J.1];exact am
 have ab:Below w.heap.size w (((w.alloc (.cells #[vv,rv,ev] 295)).alloc (.cells #[v] B9)).alloc (.cells #[vv,.slice (some ⟨w.heap.size+1,0,none⟩) 1 1] 293)):=(b_.alloc (by simp) _).alloc (by simp;omega) _
 have HC:Hid (Calls prog 296 #[.slice (some ⟨w.heap.size+2,0,none⟩) 2 2] (((w.alloc (.cells #[vv,rv,ev] 295)).alloc (.cells #[v] B9)).alloc (.cells #[vv,.slice (some ⟨w.heap.size+1,0,none⟩) 1 1] 293)) fun e k=>∃x,e=.returned x/\Hid (Below w.heap.size w k/\k.heap[w.heap.size]?=some (.cells #[vv,rv,ev] 295 (0,0))/\∃g f,w.heap.size<=g/\x=.slice (some ⟨g,0,none⟩) (h++[v]).length f/\k.ownsRow w.heap.size B9 1 x (h++[v]).length (h++[v]))):=by
  have k0:(((w.alloc (.cells #[vv,rv,ev] 295)).alloc (.cells #[v] B9)).alloc (.cells #[vv,.slice (some ⟨w.heap.size+1,0,none⟩) 1 1] 293)).heap[w.heap.size+2]?=some (.cells #[vv,.slice (some ⟨w.heap.size+1,0,none⟩) 1 1] 293 (0,0)):=by have:=heap_alloc_new ((w.alloc (.cells #[vv,rv,ev] 295)).alloc (.cells #[v] B9)) (.cells #[vv,.slice (some ⟨w.heap.size+1,0,none⟩) 1 1] 293);rw [show((w.alloc (.cells #[vv,rv,ev] 295)).alloc (.cells #[v] B9)).heap.size=w.heap.size+2 from by simp] at this;exact this
  have z:(((w.alloc (.cells #[vv,rv,ev] 295)).alloc (.cells #[v] B9)).alloc (.cells #[vv,.slice (some ⟨w.heap.size+1,0,none⟩) 1 1] 293)).heap[w.heap.size+1]?=some (.cells #[v] B9 (0,0)):=by rw [k_ (by simp)];have:=heap_alloc_new (w.alloc (.cells #[vv,rv,ev] 295)) (.cells #[v] B9);rw [show(w.alloc (.cells #[vv,rv,ev] 295)).heap.size=w.heap.size+1 from by simp] at this;exact this
  have k2:(((w.alloc (.cells #[vv,rv,ev] 295)).alloc (.cells #[v] B9)).alloc (.cells #[vv,.slice (some ⟨w.heap.size+1,0,none⟩) 1 1] 293)).heap[w.heap.size]?=some (.cells #[vv,rv,ev] 295 (0,0)):=by rw [k_ (by simp;omega),k_ (by simp)];exact heap_alloc_new w _
  refine(yX _ (w.heap.size+2) (w.heap.size+1) vv h v (oJ bd ab) O hv.QL (by omega) (aA k0 0) (aA k0 1) (aA z 0)).mono (fun e k ⟨x,k3,k4,k5,g,f,k6⟩=>⟨x,k3,ab.trans (k4.mono (by simp;omega)),(k4.block _ (by simp;omega)).trans k2,g,f,?_,k6,?_⟩)
  ·subst k6;have:=(o9 k5).1;simp at this;omega
  ·subst k6;refine⟨k5.1,k5.2.imp id (fun⟨g',c',ac,e1,e2,r⟩=>⟨g',c',ac,e1,by simp at e2;omega,r⟩)⟩
 have HM:=h_ hW.CY.mlt;have A:BY (RV s) (h++[v]) (fr.B8++[q]):=J.snoc hv
 have au:Hid (∀(k:World)(g f:Nat)(o:Option Addr)(L c:Nat),Below w.heap.size w k->w.heap.size<=g->k.ownsRow w.heap.size B9 1 (.slice (some ⟨g,0,none⟩) (h++[v]).length f) (h++[v]).length (h++[v])->fr.pos=fr.form.ks.length->L=h.length->h.length<=c->(h.length≠0->o=some ⟨g,1,none⟩)->∀x0,(h++[v])[0]?=some x0->Calls prog 297 #[.pointer (some ⟨j,0,none⟩),x0,.slice o L c] k fun e G=>∃x,e=.returned x/\Hid (AS M w s tb mb t Z j (gZ W S fr q) (.returned x) G)):=fun k g f o L c X Y h3 h4 h5 h6 h7 x0 D=>by
  subst h5;obtain⟨_,_,ac,h8,h9⟩:=o9 h3
  obtain⟨n,gs,P⟩:∃n gs,fr.B8++[q]=n::gs:=by
   cases fr.B8 with
   | nil=>exact⟨_,_,rfl⟩
   | cons a l=>exact⟨_,_,rfl⟩
  have Q:gZ W S fr q=Pl.apply W S n gs:=by unfold gZ;rw [if_pos h4,P]
  obtain⟨u0,C,ad⟩:∃u0 C,h++[v]=u0::C:=by
   cases h with
   | nil=>exact⟨_,_,rfl⟩
   | cons a l=>exact⟨_,_,rfl⟩
  rw [P,ad] at A;rw [ad] at D;simp only [List.getElem?_cons_zero,o_] at D;subst D;have bs:C.length=h.length:=by have:=congrArg List.length ad;simp at this;omega
  have bt:BY (RV s) C gs:=by have:=A.drop 1;simpa using this
  rw [Q];have bu:Ap M w k s tb mb t Z j W S fv ev0 gv kv ov (.slice o h.length c) C gs:=by refine⟨X,hW,hr,hf,ho,bt,by omega,o,c,by rw [bs],by omega,fun hn=>⟨g,1,ac,h7 (by omega),Y,h8,fun i u hi=>?_⟩⟩;rw [Nat.add_comm];exact h9 (i+1) u (by rw [ad];simpa using hi)
  have aw:∀x∈fr.B8++[q],BL W x:=fun x hx=>by
   rcases List.mem_append.1 hx with hx | hx
   ·exact an x hx
   ·simp at hx;subst hx;exact ap
  rw [P] at aw
  exact(XQ M w k s tb mb t Z j W bp S fv ev0 gv kv ov _ C gs bu (fun x hx=>aw x (List.mem_cons_of_mem _ hx)) u0 n (A.2 0 u0 n rfl rfl) (aw n (by simp))).mono (fun e G hh=>by
   obtain⟨x,rfl⟩:=hh.one
   exact⟨x,rfl,hh⟩)
 obtain⟨H,rfl⟩:=he.ptr;obtain⟨T,x,rfl⟩:=hv.iface;have R:F.length=fr.form.ks.length-fr.pos:=by rw [aa.1];simp
 have ax:=be;obtain⟨bv,ar,cr,rfl,Q,bw⟩:=be;obtain⟨av,cv,rfl,bx,bz⟩:=bd;clear bv bw bx bz;have bg:Hid ((h++[Value.iface T x]).length=h.length+1):=by show _=_;simp
 have ck:Hid (F.length<=cr/\h.length<=1000):=⟨Q,aq⟩
 have ay:Hid (∃x0,(h++[Value.iface T x])[0]?=some x0/\∃K N,x0=.iface K N):=by
  cases h with
  | nil=>exact⟨_,rfl,_,_,rfl⟩
  | cons a l=>exact⟨a,rfl,(A.2 0 a _ rfl (g_ (by rw [<- A.1];simp))).iface⟩
 by_cases ae:fr.pos=fr.form.ks.length
 ·have hz:((F.length:Int)==0)=true:=beq_iff_eq.2 (by omega);have HP:=h_ ae;clear hW hr hf ho he hk al A J O ab ax aa ae hv an ap R Q aq am ag ak;go_enter func295,ntmps295
  go_upto_region 2 with(go_at_call 296;refine Calls.mono HC ?_;rintro e wc ⟨x1,rfl,HQ⟩)
  obtain⟨X,Y,g,f,h3,rfl,h4⟩:=HQ.out;have b1:wc.cell? ⟨w.heap.size,1,none⟩=some (.slice ar F.length cr):=aA Y 1;obtain⟨x0,D,K,N,rfl⟩:=ay.out;obtain⟨_,U,ac,h8,h9⟩:=o9 h4;have b2:wc.cell? ⟨g,0,none⟩=some (.iface K N):=(aA h8 0).trans (h9 0 _ D);have bh:Hid (∀(o:Option Addr)(L c:Nat),L=h.length->h.length<=c->(h.length≠0->o=some ⟨g,1,none⟩)->Calls prog 297 #[.pointer (some ⟨j,0,none⟩),.iface K N,.slice o L c] wc.drew fun e G=>∃x,e=.returned x/\Hid (AS M w s tb mb t Z j (gZ W S fr q) (.returned x) G)):=fun o L c z k2 k3=>au.out wc.drew g f o L c X.drew h3 h4 HP z k2 k3 _ D;rw [bg.out] at U ⊢;obtain⟨m,hm⟩:∃m,h.length+1=m:=⟨_,rfl⟩
  rw [hm] at U ⊢;have ca:(0:Int)<(m:Int):=by omega
  have cb:(1:Int)<=(m:Int):=by omega
  have az:Hid (h.length+1=m/\m<=f):=⟨hm,U⟩
  clear X Y h3 h4 h8 h9 D HQ au HC ay;obtain⟨c,rfl⟩:∃c,f=c+1:=⟨f-1,by omega⟩
  rcases c with _ | c
  all_goals
   go_wp2_with fail
   go_region_with (go_at_call 297;refine(bh _ _ _ (by have:=az.out;omega) (by have:=az.out;omega) (by intro hh;first | rfl | (exfalso;have:=az.out;omega))).mono ?_;rintro e w3 ⟨x2,rfl,af⟩)
   all_goals
    go_wp2_with fail
    go_ret;exact af
 ·have bi:fr.pos<fr.form.ks.length:=by omega
  obtain⟨f0,ba⟩:∃f0,fr.form.ks[fr.pos]?=some f0:=⟨_,g_ bi⟩
  have bj:fr.form.ks.drop fr.pos=f0::fr.form.ks.drop (fr.pos+1):=mD ba;obtain⟨u0,C,I,h0,bk⟩:=E3.cons ⟨F,ax,aa⟩ bj;obtain⟨n,B,cj,e0,bb,P,c0,_⟩:=(Sl.C7 I).cell0;simp only [Value.slice.injEq] at e0;obtain⟨rfl,ah,rfl⟩:=e0;have bl:n≠j:=I.ne hr.JK ⟨n,B,none⟩ _ _ rfl;have hz:((F.length:Int)==0)=false:=beq_eq_false_iff_ne.2 (by omega);have ai:gZ W S fr q=⟨0,W,(S.push {fr with B8:=fr.B8++[q],pos:=fr.pos+1}).work fr.form.ks[fr.pos]? fr.env⟩:=by unfold gZ;rw [if_neg ae]
  obtain⟨K,N,rfl⟩:=h0.iface
  have bm:Hid (∀(wc:World)(g f:Nat)(o:Option Addr)(L c:Nat),Below w.heap.size w wc->w.heap.size<=g->wc.heap[w.heap.size]?=some (.cells #[.slice av h.length cv,.slice (some ⟨n,B,none⟩) F.length cr,.pointer H] 295 (0,0))->wc.ownsRow w.heap.size B9 1 (.slice (some ⟨g,0,none⟩) (h++[Value.iface T x]).length f) (h++[Value.iface T x]).length (h++[Value.iface T x])->L=C.length->C.length<=c->(C.length≠0->o=some ⟨n,B+1,none⟩)->Calls prog 151 #[.pointer (some ⟨j,1,none⟩),.iface 295 (.agg #[.slice (some ⟨g,0,none⟩) (h++[Value.iface T x]).length f,.slice o L c,.pointer H])] wc.drew fun e k=>e=.returned (.tuple #[])/\Hid (k.heap[w.heap.size]?=wc.heap[w.heap.size]? /\ k.heap[n]?=w.heap[n]? /\ ∃p a b d,k.heap[j]?=some (.cells #[.pointer (some ⟨t,0,none⟩),a,b,d,.pointer (some ⟨p,0,none⟩),ov] BT (0,0))/\∀G,AI k j #[.pointer (some ⟨t,0,none⟩),.iface K N,.pointer H,.nilIface,.pointer (some ⟨p,0,none⟩),ov] G->AS M w s tb mb t Z j (gZ W S fr q) (.returned .nilIface) G)):=fun wc g f o L c z k2 k3 k4 k5 k6 k7=>by
   subst k5;have E:Stp M w M wc.drew:=Stp.AA z.drew;have aj:=(z.block j bf).trans hr.blk;have cc:C0 M wc.drew t j fv ev0 gv kv ov:=⟨aj,hr.JK⟩
   have cd:¬M g:=fun hm=>by have:=hW.CY.mlt g hm;omega
   have bn:FF M wc.drew s (.iface 295 (.agg #[.slice (some ⟨g,0,none⟩) (h++[Value.iface T x]).length f,.slice o C.length c,.pointer H])) {fr with B8:=fr.B8++[q],pos:=fr.pos+1} :=.call _ _ _ {fr with B8:=fr.B8++[q],pos:=fr.pos+1} hk (zK (M:=M) (w:=wc.drew) k4 cd A) ⟨C,(I.AQ E).rest o c k6 k7,bk.mono (fun _ _ y=>y.go E (Sg.Le.refl _))⟩ (he.go E (Sg.Le.refl _));exact(kS wc.drew j _ _ _ _ kv ov _ S.AB.length aj ⟨_,_,rfl⟩ hf.ptr (hf.J7.below z.drew) ak).mono (fun e k ⟨j1,p,j2,j3,j4⟩=>⟨j1,j4.other _ (aB k3) (by omega),(j4.after z.drew).other n P bl,p,_,_,_,j4.blk,fun G hc=>(by rw [ai];exact(dL (fr:={fr with B8:=fr.B8++[q],pos:=fr.pos+1}) (hW.mv (Mv.below z.drew)) cc (hf.go E (Sg.Le.refl _)) (ho.below z.drew) (h0.go E (Sg.Le.refl _)) (he.go E (Sg.Le.refl _)) bn j4 j2 j3 hc ba).after E)⟩)
  have HG:Hid (∀(w0 V:World) c1 c2 c3 z,w0.heap[j]?=some (.cells #[.pointer (some ⟨t,0,none⟩),c1,c2,c3,z,ov] BT (0,0))->V.heap[j]?=w0.heap[j]? -> Calls prog 152 #[.pointer (some ⟨j,1,none⟩),.iface K N,.pointer H] V fun e k=>e=.returned (.tuple #[])/\AI V j #[.pointer (some ⟨t,0,none⟩),.iface K N,.pointer H,.nilIface,z,ov] k):=fun w0 V c1 c2 c3 z ce X=>cU V j _ _ _ _ _ _ _ _ (X.trans ce) ⟨_,_,rfl⟩ ⟨_,rfl⟩;have HU:Hid (C.length+1=F.length/\F.length<=cr):=⟨ah.symm,Q⟩
  have cf:=h_ c0;have ca:(0:Int)<(F.length:Int):=by omega
  have cb:(1:Int)<=(F.length:Int):=by omega
  clear hW hr hf ho he hk al A J O ab ax aa ae hv an ap R aq am ag ak I h0 bk ai bj ba bi au ay ah bb;obtain⟨c,rfl⟩:∃c,cr=c+1:=⟨cr-1,by omega⟩
  go_enter func295,ntmps295
  go_upto_region 2 with(go_at_call 296;refine Calls.mono HC ?_;rintro e wx ⟨x1,rfl,HQ⟩)
  obtain⟨X,Y,g,f,h3,rfl,h4⟩:=HQ.out;have b1:wx.cell? ⟨w.heap.size,1,none⟩=some (.slice (some ⟨n,B,none⟩) F.length (c+1)):=aA Y 1;have b2:wx.cell? ⟨w.heap.size,2,none⟩=some (.pointer H):=aA Y 2;have bc:Hid (∀(o:Option Addr)(L c:Nat),L=C.length->C.length<=c->(C.length≠0->o=some ⟨n,B+1,none⟩)->Calls prog 151 #[.pointer (some ⟨j,1,none⟩),.iface 295 (.agg #[.slice (some ⟨g,0,none⟩) (h++[Value.iface T x]).length f,.slice o L c,.pointer H])] wx.drew fun e k=>e=.returned (.tuple #[])/\Hid (k.heap[w.heap.size]?=wx.heap[w.heap.size]? /\ k.heap[n]?=w.heap[n]? /\ ∃p a b d,k.heap[j]?=some (.cells #[.pointer (some ⟨t,0,none⟩),a,b,d,.pointer (some ⟨p,0,none⟩),ov] BT (0,0))/\∀G,AI k j #[.pointer (some ⟨t,0,none⟩),.iface K N,.pointer H,.nilIface,.pointer (some ⟨p,0,none⟩),ov] G->AS M w s tb mb t Z j (gZ W S fr q) (.returned .nilIface) G)):=fun o L c k5 k6 k7=>bm.out wx g f o L c X h3 Y h4 k5 k6 k7;have bo:=h_ Y;have cl:j<wx.heap.size:=l_ bf X.size;rw [bg.out] at bc ⊢;generalize h.length+1=mv at *;clear X Y h3 h4 HQ HC bm
  go_upto_region 4 with fail
  go_cut [] (fun wy=>Hid (wy.heap[w.heap.size]?=some (.cells #[.slice av h.length cv,.slice (some ⟨n,B,none⟩) F.length (c+1),.pointer H] 295 (0,0))/\wy.heap[n]?=w.heap[n]? /\ ∃p a b d,wy.heap[j]?=some (.cells #[.pointer (some ⟨t,0,none⟩),a,b,d,.pointer (some ⟨p,0,none⟩),ov] BT (0,0))/\∀G,AI wy j #[.pointer (some ⟨t,0,none⟩),.iface K N,.pointer H,.nilIface,.pointer (some ⟨p,0,none⟩),ov] G->AS M w s tb mb t Z j (gZ W S fr q) (.returned .nilIface) G))
  case first =>
   rcases c with _ | c
   all_goals
    go_region_with (go_at_call 151;refine(bc _ _ _ (by have:=HU.out;omega) (by have:=HU.out;omega) (by intro hh;first | rfl | (exfalso;have:=HU.out;omega))).mono ?_;rintro e w3 ⟨rfl,af⟩)
    all_goals
     go_wp2_with fail
     go_meet
     exact⟨af.1.trans bo,af.2⟩
  case rest =>
   have HQ:=hcut;obtain⟨z,k2,p,a,b,d,k3,k4⟩:=HQ.out;have cg:=h_ k4;have ch:Hid (∀V:World,V.heap[j]?=wc.heap[j]? -> Calls prog 152 #[.pointer (some ⟨j,1,none⟩),.iface K N,.pointer H] V fun e k=>e=.returned (.tuple #[])/\AI V j #[.pointer (some ⟨t,0,none⟩),.iface K N,.pointer H,.nilIface,.pointer (some ⟨p,0,none⟩),ov] k):=fun V e1=>HG.out wc V _ _ _ _ k3 e1;have j1:wc.cell? ⟨w.heap.size,1,none⟩=some (.slice (some ⟨n,B,none⟩) F.length (c+1)):=aA z 1;have j2:wc.cell? ⟨w.heap.size,2,none⟩=some (.pointer H):=aA z 2;have cm:wc.cell? ⟨n,B,none⟩=some (.iface K N):=(World.cell?_of_block (w:=w) k2).trans cf;have cn:j<wc.heap.size:=aB k3;clear z k2 k3 k4 HQ hcut bc HG bo b1 b2;go_wp2_with fail;go_region_with (go_at_call 152;refine(ch _ (by rfl)).mono ?_;rintro e w3 ⟨rfl,ci⟩)
   all_goals
    go_wp2_with fail
    go_ret;exact cg.out _ (ci.after (r_.drew))
theorem LO.out_{s:Sg}{sb rb:Nat}{S:PS}{a:AE}(h:LO M w s sb rb S a):OutB M w sb rb a:=by obtain⟨b,c,d,e,f,g,_,_,i⟩:=h.ex;exact⟨b,c,d,e,f,g,i⟩
theorem r7(M:Nat->Prop)(w:World)(s:Sg)(tb mb p B r t:Nat)(W:PW)(S:PS)(F:Wd M w s tb mb p B W)(V:CT s)(L:LO M w s p r S W.out)(X:SW W S t)(u:S.AB.length<=6500000000000000000)(f:PF)(C:S.form=some f) :Calls prog 147 #[.pointer (some ⟨r,0,none⟩)] w fun e Y=>AS M w s tb mb p B r (Pl.step W S) e Y:=by
 obtain⟨Z,ev,gv,kv,ov,G,J,j,H⟩:=L.ex;have N:=X.form f C;have O:=N.lnm;unfold FE at J;rw [C] at J;obtain⟨P,I⟩:=J
 cases P with
 | const x q i d v n m h hq =>
  have e:Pl.step W S=⟨0,W,S.A1 v⟩:=by unfold Pl.step;rw [C];rfl
  rw [e];exact uM M w s tb mb p B r W S F G I.ptr j H h
 | name k i d v n m h =>
  have e:Pl.step W S=gD W S i:=by unfold Pl.step gD;rw [C];rfl
  rw [e];exact yC M w s tb mb p B r W S F V i k G I j H h (by have:i.length<=300:=O;omega)
 | iff a b c x y z i d v m A D K =>
  have e:Pl.step W S=⟨0,W,(S.push ⟨.mk .iff i d v [x,y,z] m,[],1,S.env⟩).work (some x) S.env⟩:=by unfold Pl.step;rw [C];rfl
  rw [e];exact p_wfIf M w s tb mb p B r W S F u y z _ x G I j H A rfl rfl D K _ rfl
 | set k a x i d v m h A =>
  have e:Pl.step W S=⟨0,W,(S.push ⟨.mk .set i d v [x] m,[],1,S.env⟩).work (some x) S.env⟩:=by unfold Pl.step;rw [C];rfl
  rw [e];exact XA M w s tb mb p B r W S F u i k _ x G I j H A rfl rfl h _ rfl
 | define k a x i d v m h A =>
  have e:Pl.step W S=⟨0,W,(S.push ⟨.mk .define i d v [x] m,[],1,S.env⟩).work (some x) S.env⟩:=by unfold Pl.step;rw [C];rfl
  rw [e];exact r9 M w s tb mb p B r W S F u i k _ x G I j H A rfl rfl h _ rfl
 | lambda U a x i d v m A D =>
  have e:Pl.step W S=⟨0,{W with procs:=W.procs++[(.mk .lambda i d v [x] m,S.env)]},S.A1 (.proc W.procs.length)⟩:=by unfold Pl.step;rw [C];rfl
  rw [e];exact r8 M w s tb mb p B r W S F _ x G I j H rfl A D
 | begin U Q i d v n m A D K R T =>
  obtain⟨E,g,o⟩:∃E g,n=E::g:=by
   cases n with
   | nil=>simp at R
   | cons a l=>exact⟨a,l,rfl⟩
  have e:Pl.step W S=⟨0,W,(if 0<g.length then S.push ⟨.mk .begin i d v n m,[],1,S.env⟩ else S).work (some E) S.env⟩:=by unfold Pl.step;rw [C];show(⟨0,W,(if 1<n.length then S.push ⟨.mk .begin i d v n m,[],1,S.env⟩ else S).work n[0]? S.env⟩:SR)=_;rw [o];simp
  rw [e];exact uN M w s tb mb p B r W S F u (.mk .begin i d v n m) G I j H rfl E g o ⟨Q,by rw [D];exact A,⟨D,K⟩⟩ (by rw [o] at T;simp at T;omega) _ rfl _ rfl
 | call U Q i d v n m A D K R T =>
  obtain⟨E,g,o⟩:∃E g,n=E::g:=by
   cases n with
   | nil=>simp at R
   | cons a l=>exact⟨a,l,rfl⟩
  have e:Pl.step W S=⟨0,W,(S.push ⟨.mk .call i d v n m,[],1,S.env⟩).work (some E) S.env⟩:=by unfold Pl.step;rw [C];show(⟨0,W,(S.push ⟨.mk .call i d v n m,[],1,S.env⟩).work n[0]? S.env⟩:SR)=_;rw [o];rfl
  rw [e];exact yD M w s tb mb p B r W S F u (.mk .call i d v n m) G I j H rfl E g o ⟨Q,by rw [D];exact A,⟨D,K⟩⟩ _ rfl
theorem Tryz.d_(a b c d:Value)(w:World):(Go.method 518 286 (.agg #[a,b,c,d]) "stepper/slow.take").run prog w=.ok (291,(.agg #[a,b,c,d])) w:=by kernel_rfl
theorem Tryz.Y_(a b c d:Value)(w:World):(Go.nilAhead 518 286 (.agg #[a,b,c,d]) "stepper/slow.take").run prog w=.ok (some false) w:=by kernel_rfl
theorem Tryz.j_:Enters 291:=enters_of func291 (by kernel_rfl) rfl
theorem Tryz.Z_(a b c:Value)(w:World):(Go.method 518 289 (.agg #[a,b,c]) "stepper/slow.take").run prog w=.ok (292,(.agg #[a,b,c])) w:=by kernel_rfl
theorem Tryz.X_(a b c:Value)(w:World):(Go.nilAhead 518 289 (.agg #[a,b,c]) "stepper/slow.take").run prog w=.ok (some false) w:=by kernel_rfl
theorem Tryz.f_:Enters 292:=enters_of func292 (by kernel_rfl) rfl
theorem Tryz.Q7(a b:Value)(w:World):(Go.method 518 291 (.agg #[a,b]) "stepper/slow.take").run prog w=.ok (294,(.agg #[a,b])) w:=by kernel_rfl
theorem Tryz.Q6(a b:Value)(w:World):(Go.nilAhead 518 291 (.agg #[a,b]) "stepper/slow.take").run prog w=.ok (some false) w:=by kernel_rfl
theorem Tryz.Q9:Enters 294:=enters_of func294 (by kernel_rfl) rfl
theorem Tryz.SI(a b:Value)(w:World):(Go.method 518 300 (.agg #[a,b]) "stepper/slow.take").run prog w=.ok (302,(.agg #[a,b])) w:=by kernel_rfl
theorem Tryz.SH(a b:Value)(w:World):(Go.nilAhead 518 300 (.agg #[a,b]) "stepper/slow.take").run prog w=.ok (some false) w:=by kernel_rfl
theorem Tryz.SJ:Enters 302:=enters_of func302 (by kernel_rfl) rfl
theorem Tryz.V7(a b c:Value)(w:World):(Go.method 518 295 (.agg #[a,b,c]) "stepper/slow.take").run prog w=.ok (295,(.agg #[a,b,c])) w:=by kernel_rfl
theorem Tryz.V6(a b c:Value)(w:World):(Go.nilAhead 518 295 (.agg #[a,b,c]) "stepper/slow.take").run prog w=.ok (some false) w:=by kernel_rfl
theorem Tryz.V8:Enters 295:=enters_of func295 (by kernel_rfl) rfl
theorem dQ(w:World)(a b p n:Nat)(ev f q c:Value)(T:TypeId)(x:Value)(h:FuncId)(Q:Value->World->Prop)(d:w.heap[a]?=some (.cells #[.pointer (some ⟨p,0,none⟩),.nilIface,ev,f,.pointer (some ⟨b,0,none⟩),q] BT (0,0)))(hp:w.heap[b]?=some (.cells #[.iface T x,c,.int .i64 (n:Int)] DQ (0,0)))(i:b≠a)(r:∃T x,f=.iface T x)(s:∃o,c=.pointer o)
  (B:∀w,(Go.method 518 T x "stepper/slow.take").run prog w=.ok (h,x) w) (t:∀w,(Go.nilAhead 518 T x "stepper/slow.take").run prog w=.ok (some false) w) (j:Enters h)
  (m:∀k,k=w.setCell ⟨a,4,none⟩ c\/k=(w.setCell ⟨a,4,none⟩ c).drew->Calls prog h #[x,.pointer (some ⟨a,0,none⟩),f] k fun e l=>∃v,e=.returned v/\Q v l) :
  Calls prog 144 #[.pointer (some ⟨a,0,none⟩)] w fun e l=>∃v,e=.returned v/\Q v l:=by
 have u:=aB d;have y:=aB hp;have _:=i;have C:w.cell? ⟨a,1,none⟩=some .nilIface:=aA d 1;have D:w.cell? ⟨a,3,none⟩=some f:=aA d 3;have E:w.cell? ⟨a,4,none⟩=some (.pointer (some ⟨b,0,none⟩)):=aA d 4;have F:w.frozen? ⟨a,4,none⟩=false:=aF d 4;have G:w.cell? ⟨b,0,none⟩=some (.iface T x):=aA hp 0;have H:w.cell? ⟨b,1,none⟩=some c:=aA hp 1;have g:=AI.set d 4 c rfl;have I:(w.setCell ⟨a,4,none⟩ c).cell? ⟨a,3,none⟩=some f:=aA g.blk 3;have z:=h_ m;obtain⟨J,K,rfl⟩:=r;obtain⟨L,rfl⟩:=s;unfold Enters at j;clear m d hp g;go_enter func144,ntmps144;go_wp2_with fail;go_region_with (refine(z _ (by first | exact .inl rfl | exact .inr rfl)).mono ?_;rintro e M ⟨v,rfl,A⟩)
 all_goals
  go_wp2_with fail
  go_ret;exact⟨v,rfl,A⟩
theorem sB(w:World)(a:Nat)(g b ev h i j:Value)(d:w.heap[a]?=some (.cells #[g,b,ev,h,i,j] BT (0,0)))(k:∃T x,b=.iface T x)(Q:Value->World->Prop)(f:Calls prog 147 #[.pointer (some ⟨a,0,none⟩)] w fun e c=>∃v,e=.returned v/\Q v c) :Calls prog 144 #[.pointer (some ⟨a,0,none⟩)] w fun e c=>∃v,e=.returned v/\Q v c:=by have n:w.cell? ⟨a,1,none⟩=some b:=aA d 1;have l:=h_ f;obtain⟨T,x,rfl⟩:=k;clear f d;go_enter func144,ntmps144;go_wp2_with (go_at_call 147;refine Calls.mono l ?_;rintro e o ⟨v,rfl,m⟩);go_ret;exact⟨v,rfl,m⟩
def KA(M:Nat->Prop)(w:World)(s:Sg)(tb mb sb gb rb:Nat)(r:SR)(v:Value)(w':World):Prop:=AS M w s tb mb sb gb rb r (.returned v) w'
theorem dW{w0:World}{s:Sg}{tb mb sb gb rb:Nat}{r:SR}{f:FuncId}{args:Array Value}(h:Calls prog f args w fun e a=>AS M w0 s tb mb sb gb rb r e a):Calls prog f args w fun e a=>∃v,e=.returned v/\KA M w0 s tb mb sb gb rb r v a :=h.mono (fun e a b=>by obtain⟨v,rfl⟩:=b.one;exact⟨v,rfl,b⟩)
theorem p_step(M:Nat->Prop)(w:World)(s:Sg)(tb mb o J j t m:Nat)(W:PW)(S:PS)(hW:Wd M w s tb mb o J W)(hN:CT s)(T:LO M w s o j S W.out)(ac:WW W t)(U:SW W S t)(V:Sm W S m)(ht:m<=6500000000000000000)(ad:W.out.length<=1000)(X:S.ended=false) :Calls prog 144 #[.pointer (some ⟨j,0,none⟩)] w fun e w'=>∃v,e=.returned v/\KA M w s tb mb o J j (Pl.step W S) v w':=by
 cases hf:S.form with
 | some f =>have hC:=dW (r7 M w s tb mb o J j t W S hW hN T U (t_ V.AB ht) f hf);obtain⟨fv,K,r,kv,I,u,q,_,_⟩:=T.ex;unfold FE at q;rw [hf] at q;exact sB w j _ fv K r kv I u.blk q.1.iface _ hC
 | none =>
  obtain⟨fv,K,r,kv,I,u,q,ae,ho⟩:=T.ex;unfold FE at q;rw [hf] at q;obtain⟨rfl,h⟩:=q;have Y:Pl.step W S=Pl.taken W S:=by unfold Pl.step;rw [hf]
  have af:=U.val hf
  cases l:S.AB with
  | nil =>exfalso;unfold Pl.PS.ended at X;rw [hf,l] at X;simp at X
  | cons fr d =>
   rw [l] at ae;obtain⟨b,aq,C,rfl,ak,D,E,A⟩:=ae;have F:b≠j:=fun e=>ak (by rw [e];exact u.JK);have G:=U.AB.1 fr (by rw [l];simp);have ag:d.length<=6500000000000000000:=by have:=V.AB;rw [l] at this;simp at this;omega
   have ah:=AI.set u.blk 4 C rfl
   have p:∀g,(g=w.setCell ⟨j,4,none⟩ C\/g=(w.setCell ⟨j,4,none⟩ C).drew)->Stp M w M g/\Wd M g s tb mb o J W/\C0 M g o j .nilIface K r C I/\GW M g s C d/\DS M g I W.out:=fun g H=>by
    have Z:AI w j #[.pointer (some ⟨o,0,none⟩),.nilIface,K,r,C,I] g:=by
     rcases H with rfl | rfl
     ·exact ah
     ·exact ah.drew
    have V:=Z.mv u.blk u.JK;exact⟨V.AQ,hW.mv V,⟨Z.blk,u.JK⟩,A.go V.AQ (Sg.Le.refl _),ho.ch Z u.blk⟩
   have ai:W.globals.length<=6500000000000000000:=t_ V.w.globals ht;have ar:=G.form.lnm;rw [Y];have al:=E;obtain⟨T0,x0,au⟩:=E.iface
   cases E with
   | iff a b' c aa _ x y z B am ha h2 h3 he =>
    refine dQ w j b o _ K r I C _ _ _ _ u.blk D F h.iface A.ptr (Tryz.d_ _ _ _ _) (Tryz.Y_ _ _ _ _) Tryz.j_ (fun g H=>?_);obtain⟨n,L,N,O,P⟩:=p g H;have e:Pl.taken W S=⟨0,W,{S with AB:=d}.work (if S.val=Pl.PV.AT false then some z else some y) fr.env⟩:=by unfold Pl.taken;rw [l];dsimp only;rw [B];dsimp only;rw [am];rfl
    rw [e];exact(dW (yF M g s tb mb o J j W {S with AB:=d} fr.env L N O P (he.go n (Sg.Le.refl _)) y z ha (h2.go n (Sg.Le.refl _)) (h3.go n (Sg.Le.refl _)) r S.val h _ rfl)).mono (fun e w' ⟨v,Q,R⟩=>⟨v,Q,AS.after R n⟩)
   | set k aa _ B hn he =>
    refine dQ w j b o _ K r I C _ _ _ _ u.blk D F h.iface A.ptr (Tryz.Z_ _ _ _) (Tryz.X_ _ _ _) Tryz.f_ (fun g H=>?_);obtain⟨n,L,N,O,P⟩:=p g H
    have e:Pl.taken W S=(match Pl.DL W fr.env fr.form.nm with | some i=>⟨0,{W with places:=W.places.set i S.val},{S with AB:=d}.A1 .nothing⟩ | none=>⟨8,W,{S with AB:=d}⟩):=by
     unfold Pl.taken;rw [l];dsimp only;rw [B];dsimp only
     cases Pl.DL W fr.env fr.form.nm<;>rfl
    exact(dW (uO M g s tb mb o J j W {S with AB:=d} fr.env L hN ai N O P (he.go n (Sg.Le.refl _)) fr.form.nm k hn (by omega) r S.val h _ e)).mono (fun e w' ⟨v,Q,R⟩=>⟨v,Q,AS.after R n⟩)
   | define k _ B hn =>
    refine dQ w j b o _ K r I C _ _ _ _ u.blk D F h.iface A.ptr (Tryz.Q7 _ _) (Tryz.Q6 _ _) Tryz.Q9 (fun g H=>?_);obtain⟨n,L,N,O,P⟩:=p g H;have e:Pl.taken W S=⟨0,Pl.bind W fr.form.nm S.val,{S with AB:=d}.A1 .nothing⟩:=by unfold Pl.taken;rw [l];dsimp only;rw [B]
    rw [e];exact(dW (m7 M g s tb mb o J j W {S with AB:=d} L hN ac.globals ai N O P fr.form.nm k hn r S.val h)).mono (fun e w' ⟨v,Q,R⟩=>⟨v,Q,AS.after R n⟩)
   | begin rv aa _ B ab he =>
    refine dQ w j b o _ K r I C _ _ _ _ u.blk D F h.iface A.ptr (Tryz.SI _ _) (Tryz.SH _ _) Tryz.SJ (fun g H=>?_);obtain⟨n,L,N,O,P⟩:=p g H;have an:=G.JY B;obtain⟨f0,aj⟩:∃f0,fr.form.ks[fr.pos]?=some f0:=⟨_,g_ an⟩
    have av:(fr.form.ks.drop (fr.pos+1)).length=fr.form.ks.length-(fr.pos+1):=by simp
    have ao:=G.form.lks
    have e:Pl.taken W S=⟨0,W,(if 0<(fr.form.ks.drop (fr.pos+1)).length then {S with AB:=d}.push {fr with B8:=[],pos:=fr.pos+1} else {S with AB:=d}).work fr.form.ks[fr.pos]? fr.env⟩:=by
     unfold Pl.taken;rw [l];dsimp only;rw [B];dsimp only;by_cases hp:fr.pos+1<fr.form.ks.length
     ·rw [if_pos hp,if_pos (by omega)]
     ·rw [if_neg hp,if_neg (by omega)]
    rw [e];exact(dW (oT M g s tb mb o J j W {S with AB:=d} L ag N O P fr (he.go n (Sg.Le.refl _)) B f0 _ (mD aj) (ab.go n (Sg.Le.refl _)) (by omega) r h.iface _ rfl _ aj)).mono (fun e w' ⟨v,Q,R⟩=>⟨v,Q,AS.after R n⟩)
   | call vv rv aa _ B ap ab he =>
    refine dQ w j b o _ K r I C _ _ _ _ u.blk D F h.iface A.ptr (Tryz.V7 _ _ _) (Tryz.V6 _ _ _) Tryz.V8 (fun g H=>?_);obtain⟨n,L,N,O,P⟩:=p g H;obtain⟨c1,c2,c3⟩:=G.call B;have ao:=G.form.lks
    have e:Pl.taken W S=gZ W {S with AB:=d} fr S.val:=by
     unfold Pl.taken gZ;rw [l];dsimp only;rw [B];dsimp only;by_cases hp:fr.pos=fr.form.ks.length
     ·rw [if_pos hp,if_pos hp]
      cases fr.B8++[S.val]<;>rfl
     ·rw [if_neg hp,if_neg hp]
    rw [e];exact(dW (sA M g s tb mb o J j W ⟨aC2 ac,ad⟩ {S with AB:=d} L ag N O P fr (he.go n (Sg.Le.refl _)) B c2 (ap.go n (Sg.Le.refl _)) (ab.go n (Sg.Le.refl _)) (by omega) c3 r S.val h af)).mono (fun e w' ⟨v,Q,R⟩=>⟨v,Q,AS.after R n⟩)
end
end Go.Proofs.YtieooapcfpimlaaGreatDoor
