import Derived.Test.YtbgghmjmcapmlaaGreatDoorF06
import Derived.Laws.OwnMore
namespace Go.Proofs.YtbgghmjmcapmlaaGreatDoor
set_option maxHeartbeats 4000000
set_option maxRecDepth 100000
open Go.Proofs.Tryz
open Pl (PV PF FR AE AD BB BN EE EF isName)
theorem zD8{P:Prop}(h:P:=by
 have F:((us.length:Int)+1==0)=false:=by simp;omega
 have G:(w.alloc (A0 tb)).cell? ⟨w.heap.size,0,none⟩=some (Q0 tb):=aA (heap_alloc_new w (A0 tb)) 0;unfold D2;clear j d k p q;go_enter func75,ntmps75;go_wp2_with (go_at_call 60;refine(x _ _ x8 x8).mono ?_;rintro e a ⟨rfl,rfl⟩)
 ·refine(t _ _ x8 (by intro B;first | rfl | (exfalso;omega))).mono ?_;rintro e C ⟨v,i,rfl,m⟩;go_wp2_with fail;go_ret2;exact m.post
 ·refine(t _ _ x8 (by intro B;first | rfl | (exfalso;omega))).mono ?_;rintro e C ⟨v,i,rfl,m⟩;go_wp2_with fail;go_ret2;exact m.post):P:=h
theorem zD9{P:Prop}(h:P:=by
 go_enter func121,ntmps121
 go_wp2_with (go_at_call 92;refine(aS _ _).mono ?_;rintro e Q ⟨rfl,rfl⟩)
 go_ret2;exact⟨_,_,rfl,aI (bB w _),s,DK.refl _,rfl,Nat.le_add_right _ _,HR.below (bB w _),.inr ⟨N,_,rfl⟩⟩):P:=h
theorem zE0{P:Prop}(h:P:=by
 go_enter func98,ntmps98
 go_wp2_with (go_at_call 92;refine(aS _ _).mono ?_;rintro e E ⟨rfl,rfl⟩)
 go_ret2;exact⟨aI (bB w _),s,DK.refl _,Nat.le_add_right _ _,.inr ⟨HE,rfl,S.below (bB w _),_,_,rfl⟩⟩):P:=h
theorem zE1{P:Prop}(h:P:=by
 go_wp2_with (go_at_call 92;refine(aS _ _).mono ?_;rintro e E ⟨rfl,rfl⟩)
 go_ret2;exact⟨aI H,s,DK.refl _,Nat.le_add_right _ _,.inr ⟨HE,rfl,S.below H,_,_,rfl⟩⟩):P:=h
theorem zE3{P:Prop}(h:P:=by have l:Hid (Q3 w d):=(bB w _).trans (f.mono (bB w _).size);clear c f;go_wp2_with fail;go_ret;exact⟨l,by rw [j.out];rfl⟩):P:=h
theorem zE4{P:Prop}(h:P:=by
 try unfold Q3 at this
 rwa [show(w.alloc (A0 tb)).heap.size=w.heap.size+1 from by simp] at this):P:=h
section
open Go.RowKit
variable {w wr w':World} {M:Q5} {base tb mb n z k g' cap' m:Nat} {v:Value} {vs:List Value} {s:Sg} {nm:List AE} {ks:List Nat} {o:Obj}
theorem Tryz.infoNm:(prog.info? 196).map (fun i=>(i.zero,i.size,i.bytes))=some (some (.agg #[.string ByteArray.empty,Q1 0]),2,24):=by kernel_rfl
theorem nQ{i:Nat}{t:AE}(b:nm[i]?=some t)(c:ks[i]?=some k):(nmRow nm ks)[i*2]?=some (.string ⟨t.toArray⟩)/\(nmRow nm ks)[i*2+1]?=some (Q1 k):=by
 have a:(List.zip nm ks)[i]?=some (t,k):=by rw [List.getElem?_zip_eq_some];exact⟨b,c⟩
 exact⟨by rw [show i*2=i*2+0 from rfl];exact aX (fun p:AE×Nat=>gU p.1 p.2) 2 (fun _=>rfl) _ i 0 _ a w8,aX (fun p:AE×Nat=>gU p.1 p.2) 2 (fun _=>rfl) _ i 1 _ a w8⟩
theorem sU(h:ks.length=nm.length)(t:AE)(k:Nat):nmRow (nm++[t]) (ks++[k])=nmRow nm ks++gU t k:=by unfold nmRow;rw [List.zip_append h.symm];simp
theorem iJ(h:w.ownsRow base B6 2 v k (nmRow nm ks))(o:nm.length=k) :∃d a,v=.slice d k a/\k<=a/\∀(i:Nat)(t:AE)(n:Nat),nm[i]?=some t->ks[i]?=some n->∃g,d=some ⟨g,0,none⟩/\g<w.heap.size/\w.cell? ⟨g,i*2,none⟩=some (.string ⟨t.toArray⟩)/\w.cell? ⟨g,i*2+1,none⟩=some (Q1 n):=by
 rcases h.2 with⟨b,f⟩ | ⟨g,a,j,b,_,l,m,_⟩
 ·refine⟨none,0,by rw [f];exact b,x8,fun i t n c=>?_⟩;have:=(s_ c).1;omega
 ·refine⟨some ⟨g,0,none⟩,a,b,m,fun i t n c e=>⟨g,rfl,aB l,?_,?_⟩⟩
  ·have:=h.cells (g:=g) zN5 (i*2) _ (nQ c e).1
   rwa [Addr.add_lit,Nat.zero_add] at this
  ·have:=h.cells (g:=g) zN5 (i*2+1) _ (nQ c e).2
   rwa [Addr.add_lit,Nat.zero_add] at this
theorem XY{α:Type}{l:List α}(h:l.Nodup){i j:Nat}{x:α}(hi:l[i]?=some x)(c:l[j]?=some x):i=j:=by obtain⟨a,d⟩:=s_ hi;obtain⟨b,e⟩:=s_ c;exact(List.getElem_inj (h₀:=a) (h₁:=b) h).1 (d.trans e.symm)
theorem XN(ns:List AE)(s:ns.Nodup)(w:World)(base k:Nat)(sl:Value)(nm:List AE)(A:List Nat)(t:AE)(h:Nat)(I:w.ownsRow base B6 2 sl k (nmRow nm A))(J:BY (fun k t=>ns[k]?=some t) A nm)(l:nm.length=k)(K:ns[h]?=some t)(X:k<=1000) :Q2 146 #[sl,.agg #[.string ⟨t.toArray⟩,Q1 h]] w fun e P=>Q3 w P/\∃r:Int,e=.returned (Q1 r)/\((t∈nm/\0<=r)\/(t∉nm/\r=-1)):=by
 obtain⟨Y,Q,rfl,L,b⟩:=iJ I l;have R:=h_ b;have c:=h_ l;have D:=h_ J;have M:=h_ K;have E:Hid ns.Nodup:=s;clear b I J l K s;go_enter func146,ntmps146;go_wp2_with fail
 go_loopw [8] (fun F S=>∃(j:Nat),j<=k/\F=.int .i64 j/\Hid (Below (w.heap.size+1) (w.alloc (.cells #[.string ⟨t.toArray⟩,Q1 h] B6)) S)/\Hid (∀(i:Nat)(y:AE),i<j->nm[i]?=some y->¬y=t)) (fun F _=>k-(intOf F).toNat)
 case atStart=>exact⟨0,Nat.zero_le _,rfl,r_,fun i y B=>by omega⟩
 case round =>
  obtain⟨j,Z,rfl,u,N⟩:=hrel;have d:Hid (Q3 w wr):=show Below _ _ _ from(bB w _).trans (u.mono x8);have b0:wr.cell? ⟨w.heap.size,0,none⟩=some (.string ⟨t.toArray⟩):=by have:=(u.block w.heap.size x8).trans (heap_alloc_new w (.cells #[.string ⟨t.toArray⟩,Q1 h] B6));exact aA this 0
  have b1:wr.cell? ⟨w.heap.size,1,none⟩=some (Q1 h):=by have:=(u.block w.heap.size x8).trans (heap_alloc_new w (.cells #[.string ⟨t.toArray⟩,Q1 h] B6));exact aA this 1
  by_cases T:j<k
  ·obtain⟨y,q⟩:∃y,nm[j]?=some y:=⟨nm[j]'(by have:=c.out;omega),g_ (by have:=c.out;omega)⟩
   obtain⟨v,f⟩:∃y,A[j]?=some y:=⟨A[j]'(by have:=c.out;have:=D.1;omega),g_ (by have:=c.out;have:=D.1;omega)⟩
   obtain⟨C,rfl,x,m,n⟩:=R.out j y v q f;have U:wr.cell? ⟨C,j*2,none⟩=some (.string ⟨y.toArray⟩):=(d.cell (p:=⟨C,j*2,none⟩) x).trans m;have V:wr.cell? ⟨C,j*2+1,none⟩=some (Q1 v):=(d.cell (p:=⟨C,j*2+1,none⟩) x).trans n;have O:(j:Int)<(k:Int):=by omega
   have g:=D.2 j v y f q;by_cases a:t=y
   ·have o:Hid (t∈nm):=show t∈nm from by rw [a];exact q_ q
    subst a;obtain rfl:=XY E M g;clear q f g m n;go_wp2_with fail
    go_quiet (fail)
    go_wp2_with fail
    go_ret;exact⟨d.trans ((U2 wr nq).mono d.size),_,rfl,.inl ⟨o,x8⟩⟩
   ·have G:Hid (∀(i:Nat)(z:AE),i<j+1->nm[i]?=some z->¬z=t):=by
     intro i z B H;by_cases e:i=j
     ·subst e;rw [q] at H;obtain rfl:=i_ H;exact fun e=>a e.symm
     ·exact N.out i z x8 H
    have e1:(t==y)=false:=by simpa using a
    have e2:((h:Int)==(v:Int))=false:=by
     rw [beq_eq_false_iff_ne];intro e;have e:h=v:=by omega
     subst e;have:=M.symm.trans g;exact a (i_ this)
    clear q f g m n a;go_wp2_with fail
    go_quiet (fail)
    go_wp2_with fail
    go_roundw
    case rel=>exact⟨j+1,x8,k7,u.trans ((U2 wr nq).mono (by have:=u.size;simpa using this)),G⟩
    case measure=>simp [intOf];omega
  ·have o:Hid (t∉nm):=show t∉nm from fun W=>by
    obtain⟨i,B⟩:=List.mem_iff_getElem?.1 W;exact N.out i t (by have:=(s_ B).1;have:=c.out;omega) B rfl
   go_wp2_with fail
   go_ret;exact⟨d,_,rfl,.inr ⟨o,rfl⟩⟩
theorem sK(ns:List AE)(b:ns.Nodup)(w:World)(base k:Nat)(sl:Value)(nm:List AE)(g:List Nat)(t:AE)(h:Nat)(i:w.ownsRow base B6 2 sl k (nmRow nm g))(m:BY (fun k t=>ns[k]?=some t) g nm)(a:nm.length=k)(n:ns[h]?=some t)(q:k<=1000) :Q2 139 #[sl,.agg #[.string ⟨t.toArray⟩,Q1 h]] w fun e d=>Q3 w d/\e=.returned (.bool (decide (t∈nm))):=by
 have s:Hid (∀o:Obj,_):=fun o=>XN ns b (w.alloc o) base k sl nm g t h (i.alloc o) m a n q;obtain⟨v,u,rfl,p,_⟩:=iJ i a;clear i m a n b;go_enter func139,ntmps139;go_wp2_with fail;refine Calls.mono (s _) ?_;rintro e d ⟨f,r,rfl,⟨c,x⟩ | ⟨c,rfl⟩⟩
 ·have j:Hid (decide (t∈nm)=true):=by simpa [Hid] using c
  exact zE3
 ·have j:Hid (decide (t∈nm)=false):=by simpa [Hid] using c
  exact zE3
def eJ:Tr->Bool
 | .agg l=>Pl.CJ l
 | _=>false
def P8(M:Q5)(w:World)(s:Sg)(tb mb:Nat)(ps:List (PV×PV))(t:Tr)(z:Nat)(v ev:Value)(w':World):Prop :=
 w.grownBy w' (some mb)/\∃t',DK s t'/\t'.pb=s.pb/\t'.ns.length<=s.ns.length+z/\BM M w' t' tb mb ps /\
  ((∃l,t=.agg l/\Pl.CJ l=true/\ev=.nilIface/\EI M w' t' v (l.map Pl.strOf))\/(eJ t=false/\∃es,ev=aY es 5))
structure KC(w wr:World)(s t:Sg)(tb mb:Nat)(l:List Tr)(zs:List Nat)(k:Nat)(rv:Value)(nm:List AE)(ks:List Nat):Prop where
 row:wr.ownsRow w.heap.size B6 2 rv k (nmRow nm ks)
 all:BY (fun k x=>t.ns[k]?=some x) ks nm
 nl:nm.length=k
 gm:w.grownBy wr (some mb)
 B3:IW wr tb mb t.ns
 sg:DK s t
 pb:t.pb=s.pb
 zl:t.ns.length<=s.ns.length+(zs.take k).sum
 seen:Seen l k nm
theorem KC.start{ps:List (PV×PV)}(h:BM M w s tb mb ps)(l:List Tr)(a:List Nat):KC w w s s tb mb l a 0 (.slice none 0 0) [] [] :=⟨World.ownsRow_nil _ _ _ _,BY.nil _,rfl,aI r_,h.B3,DK.refl s,rfl,w9,Seen.start l⟩
theorem KC.push{w2 w4 w5:World}{t:Sg}{l:List Tr}{zs:List Nat}{rv:Value}{y:AE}
  (h:KC w wr s t tb mb l zs k rv nm ks) (m:mb<w.heap.size) (n:tb<w.heap.size) (p:l[k]?=some (.lit (.string y))) (q:EE y=false) (B:y∉nm) (C:zs[k]?=some z) (r:z=1)
  (a:wr.grownBy w2 (some mb)) (u:IW w2 tb mb (t.named y).ns) (b:Q3 w2 w4)
  (f:w5.ownsRow w.heap.size B6 2 (.slice (some ⟨g',0,none⟩) (k+1) cap') (k+1) (nmRow nm ks++[.string ⟨y.toArray⟩,Q1 ((t.ns.idxOf y:Nat):Int)])) (g:(w4.alloc o).grownBy w5 rv.ownBlock) :
  KC w w5 s (t.named y) tb mb l zs (k+1) (.slice (some ⟨g',0,none⟩) (k+1) cap') (nm++[y]) (ks++[t.ns.idxOf y]):=by
 have v:∀j,rv.ownBlock=some j->w.heap.size<=j:=fun j i=>(h.row.lt j i).1;have c:Q3 w4 (w4.alloc o):=bB w4 o;have D:=h.gm.size;have E:=a.size;have F:=b.size;have G:=c.size;have d:∀j,j<w.heap.size->w5.heap[j]?=w2.heap[j]? := fun j i=>by rw [g.block j x8 (fun e=>by have:=v j e.symm;omega),c.block j x8,b.block j x8]
 refine⟨by rw [sU h.all.1];exact f,(h.all.mono (fun k x p=>bS (t.E5 y).le.ns p)).snoc (internL_get t.ns y),by simp [h.nl],?_,u.keep (d tb n) (d mb m),h.sg.trans (t.E5 y),h.pb,?_,?_⟩
 ·refine⟨g.os.trans (c.os.trans (b.os.trans (a.os.trans h.gm.os))),g.tape.trans (c.tape.trans (b.tape.trans (a.tape.trans h.gm.tape))),g.output.trans (c.output.trans (b.output.trans (a.output.trans h.gm.output))),by have:=g.size;omega,fun j i A=>?_⟩;rw [d j i,a.block j x8 A,h.gm.block j i A]
 ·rw [Pl.F4 zs k z C,r];have:=h.zl;have:=dE t.ns y;simp only [Sg.named];omega
 ·exact h.seen.more p (by simp [isName,q]) B
theorem XK(n:Nat)(M:Q5)(w:World)(s:Sg)(tb mb:Nat)(ps:List (PV×PV))(v:Value)(t:Tr)(hR:BM M w s tb mb ps)(h:AN (fun k=>¬M k) n w v t)(hB:cL n t)(hz:s.ns.length+BB n t<=BS) :Q2 121 #[D2 tb,v] w fun e Q=>∃v2 ev,e=.returned (.tuple #[v2,ev])/\P8 M w s tb mb ps t (BB n t) v2 ev Q:=by
 obtain⟨i0,am,an,ap,aq⟩:=info_parts Tryz.infoNm;have bi:=Tryz.EO;have bj:=Tryz.E7;have bk:=Tryz.FN;have bl:=Tryz.ET;have HR:Hid (BM M w s tb mb ps):=hR;unfold D2;by_cases I:∃ts,t=.agg ts
 ·obtain⟨l,rfl⟩:=I
  obtain⟨m,rfl⟩:∃m,n=m+1:=by
   cases n with
   | zero=>exact h.elim
   | succ m=>exact⟨m,rfl⟩
  obtain⟨sl,vs,rfl,hS,hA,bf⟩:=h.RQ;have HS:Hid (CD M w sl vs):=hS;have HA:Hid (C9 M m w vs l):=hA;have HZ:Hid (s.ns.length+(l.map (BB m)).sum<=BS):=hz;have ar:Hid (∀x∈l,cL m x):=hB;have E:Hid (Q3 w (w.alloc (A0 tb))):=bB w _;have p:Hid (BM M (w.alloc (A0 tb)) s tb mb ps):=hR.below E;have au:Hid ((w.alloc (A0 tb)).heap[w.heap.size]?=some (A0 tb)):=heap_alloc_new _ _;have aa:Hid (mb<w.heap.size):=hR.B3.lt.2;have R:=hA.1;obtain⟨_,ao,ab,rfl,ac,_⟩:=hS;have HV:Hid (vs.length=l.length):=R;rw [R] at ac ⊢;clear hA hz hB hR h R;go_enter func121,ntmps121;go_wp2_with fail
  go_loopw [8,23] (fun lv i wr=>∃(k:Nat)(t:Sg)(d:List AE)(H:List Nat),k<=l.length/\i=.int .i64 k/\Hid (KC (w.alloc (A0 tb)) wr s t tb mb l (l.map (BB m)) k lv d H)) (fun _ i _=>l.length-(intOf i).toNat)
  case atStart=>exact⟨0,s,[],[],Nat.zero_le _,rfl,KC.start p _ _⟩
  case round =>
   obtain⟨k,t,d,H,hk,rfl,a⟩:=hrel;by_cases ad:k<l.length
   ·obtain⟨u,P⟩:∃u,vs[k]?=some u:=⟨vs[k]' zL7,g_ zL7⟩
    obtain⟨x,C⟩:∃x,l[k]?=some x:=⟨l[k],g_ ad⟩
    have ae:w.grownBy wr (some mb):=aM (aI E) a.gm;have av:=(Sl.AQ (eL ae HR.FV) HS).C7;obtain⟨bm,c,e',_,af⟩:=av;simp only [Value.slice.injEq] at e';obtain⟨rfl,_,rfl⟩:=e';obtain⟨g,bn,rfl,hg,hc⟩:=af k u P;have c0:wr.cell? ⟨w.heap.size,0,none⟩=some (Q0 tb):=by have:=(a.gm.block w.heap.size w9 (by have:=aa.out;simp;omega)).trans au;exact aA this 0
    have hr:=HA.2 k u x P C;have aw:Hid (AN (fun k=>¬M k) m w u x):=hr;obtain⟨T,y0,rfl,ag⟩:=hr.iface;have HX:Hid (l[k]?=some x):=C;have ax:Hid (BM M wr t tb mb ps):=p.I8 a.gm a.B3 a.sg a.pb
    have J:Hid (∀y,x=.lit (.string y)->y.length<=1000/\t.ns.length+1<=BS/\BB m x=1):=fun y hy=>by
     subst hy;have S:(l.map (BB m))[k]?=some (BB m (.lit (.string y))):=by rw [List.getElem?_map,C];rfl
     have Y:=Pl.F4 _ k _ S;have Z:=Pl.DH (l.map (BB m)) (k+1);have h3:=a.zl;have h4:=HZ.out;have h5:=ar.out _ (q_ C)
     cases m with
     | zero=>exact hr.elim
     | succ m =>rw [show BB (m+1) (.lit (.string y))=1 from rfl] at Y;exact⟨t_ (show y.length<=300 from h5) w8,x8,rfl⟩
    have bg:(k:Int)<(l.length:Int):=by omega
    clear af P C hr ag ad ae;go_wp2_with fail;refine(qP _ m w M wr t tb mb ps _ x aw ax (fun y hy=>⟨(J y hy).1,(J y hy).2.1⟩)).mono ?_;rintro e b ⟨q,⟨y,rfl,ah,rfl,r⟩ | ⟨ai,r,es,rfl⟩⟩
    ·have ay:w.heap.size+1<=b.heap.size:=by have Y:=a.gm.size;have Z:=q.size;simp at Y;omega
     have K:Hid (wr.grownBy b (some mb)):=q;have z:Hid (BM M b (t.named y) tb mb ps):=r;have az:Hid (EE y=false):=ah
     have U:Hid (b.ownsRow (w.alloc (A0 tb)).heap.size B6 2 u8 k (nmRow d H)):=a.row.kept q (.inr (fun e=>by
      have:=(a.row.lt mb e).1;have:=aa.out;simp at *
      omega))
     have ba:Hid ((t.named y).ns.Nodup):=by obtain⟨D,_,hD⟩:=r.B3.map;exact hD.nodup
     have bb:Hid (BY (fun k x=>(t.named y).ns[k]?=some x) H d):=a.all.mono (fun k x C=>bS (t.E5 y).le.ns C);have aj:Hid (∀o:Obj,Q2 139 #[u8,.agg #[.string ⟨y.toArray⟩,Q1 ((t.ns.idxOf y:Nat):Int)]] (b.alloc o) fun e Q=>Below (b.alloc o).heap.size (b.alloc o) Q/\e=.returned (.bool (decide (y∈d)))):=fun o =>sK _ ba (b.alloc o) _ k u8 d H y _ (U.alloc o) bb a.nl (internL_get t.ns y) x8;obtain⟨L,f,rfl,V,_⟩:=iJ U a.nl;clear q r ah c0 hc;by_cases hm:y∈d
     ·have N:Hid (eJ (.agg l)=false):=by
       obtain⟨j,hj⟩:=List.mem_iff_getElem?.1 hm;exact a.seen.ZY HX hj rfl
      have HT:Hid ((t.named y).ns.length<=s.ns.length+(l.map (BB m)).sum):=show _<=_ from by
       have S:(l.map (BB m))[k]?=some (BB m (.lit (.string y))):=by rw [List.getElem?_map,HX.out];rfl
       have Y:=Pl.F4 _ k _ S;have Z:=Pl.DH (l.map (BB m)) (k+1);have h3:=a.zl;have h4:=(J y rfl).2.2;have h5:=dE t.ns y;simp only [Sg.named];omega
      have hd:decide (y∈d)=true:=by simpa using hm
      clear hm;go_wp2_with fail;refine Calls.mono (aj _) ?_;rintro e F ⟨A,rfl⟩;have B:Hid (Q3 b F):=(bB b _).trans (A.mono (bB b _).size);clear A;go_wp2_with (go_at_call 92;refine(aS _ _).mono ?_;rintro e Q ⟨rfl,rfl⟩);go_ret2;exact⟨_,_,rfl,aM (aM (aI E) a.gm) (aM K (aI B)),t.named y,a.sg.trans (t.E5 y),a.pb,HT,z.below B,.inr ⟨N,_,rfl⟩⟩
     ·have HM:Hid (y∉d):=hm;have hd:decide (y∈d)=false:=by simpa using hm
      clear hm;go_wp2_with fail;refine Calls.mono (aj _) ?_;rintro e F ⟨A,rfl⟩;have W:=(A.block b.heap.size w9).trans (heap_alloc_new b _);have z0:F.cell? ⟨b.heap.size,0,none⟩=some (.string ⟨y.toArray⟩):=aA W 0;have z1:F.cell? ⟨b.heap.size,1,none⟩=some (Q1 ((t.ns.idxOf y:Nat):Int)):=aA W 1;have B:Hid (Q3 b F):=(bB b _).trans (A.mono (bB b _).size)
      have bc:Hid (F.ownsRow (w.heap.size+1) B6 2 (.slice L k f) k (nmRow d H)):=show World.ownsRow _ _ _ _ _ _ _ from by
       have:=U.kept (aQ none B) (by cases hv:Value.ownBlock (.slice L k f)<;>simp)
       exact zE4
      have bh:w.heap.size+1<=F.heap.size:=t_ ay B.size;have HP:Hid (∀(w5:World)(o:Obj)(g' c:Nat),w5.ownsRow (w.heap.size+1) B6 2 (.slice (some ⟨g',0,none⟩) (k+1) c) (k+1) (nmRow d H++[.string ⟨y.toArray⟩,Q1 ((t.ns.idxOf y:Nat):Int)])->(F.alloc o).grownBy w5 (Value.ownBlock (.slice L k f))->KC (w.alloc (A0 tb)) w5 s (t.named y) tb mb l (l.map (BB m)) (k+1) (.slice (some ⟨g',0,none⟩) (k+1) c) (d++[y]) (H++[t.ns.idxOf y])):=fun w5 o g' c Y Z =>a.push p.B3.lt.2 p.B3.lt.1 HX az HM (by rw [List.getElem?_map,HX.out];rfl) (J y rfl).2.2 K z.B3 B (by rw [show(w.alloc (A0 tb)).heap.size=w.heap.size+1 from by simp];exact Y) Z;clear A W;go_wp2_with (first | (at_builtin;refine wpList_append_lies _ rfl _ _ 265 rfl (w.heap.size+1) 196 i0 (.agg #[.string ByteArray.empty,Q1 0]) 2 24 underlying265 am an ap aq rfl w8 _ k (nmRow d H) rfl (bc.alloc _) ⟨F.heap.size,0,none⟩ 1 1 [.string ⟨y.toArray⟩,Q1 ((t.ns.idxOf y:Nat):Int)] rfl rfl (rH F (.string ⟨y.toArray⟩) (.int .i64 ((t.ns.idxOf y:Nat):Int)) 196) (fun x C=>by simp at C;rcases C with rfl | rfl<;>rfl) w8 o6 x8 r7 (F.heap.size+1) w9 ?_;intro g' c w5 X O _ _))
      go_roundw
      case rel=>exact⟨k+1,_,_,_,x8,k7,HP w5 _ g' c X O⟩
      case measure=>simp [intOf];omega
    ·have N:Hid (eJ (.agg l)=false):=Seen.bad HX ai;have K:Hid (wr.grownBy b (some mb)):=q;have z:Hid (BM M b t tb mb ps):=r;have HT:Hid (t.ns.length<=s.ns.length+(l.map (BB m)).sum):=show _<=_ from by have Z:=Pl.DH (l.map (BB m)) k;have h3:=a.zl;omega
     clear ai q r c0 hc;unfold aY;go_wp2_with fail;go_ret2;exact⟨_,_,rfl,aM (aM (aI E) a.gm) (aM K (aI (bB b _))),t,a.sg,a.pb,HT,z.below (bB b _),.inr ⟨N,es,rfl⟩⟩
   ·have N:Hid (Pl.CJ l=true):=a.seen.done x8;have ak:k=l.length:=by omega
    have z:Hid (BM M wr t tb mb ps):=p.I8 a.gm a.B3 a.sg a.pb;have G:d=l.map Pl.strOf:=by have:=a.seen.1;rw [ak,List.take_length] at this;exact this
    have bd:Hid (EI M wr t u8 (l.map Pl.strOf)):=show EI _ _ _ _ _ from by
     rw [<- G];refine⟨⟨H,a.all,?_⟩,a.seen.2.2,by rw [a.nl];omega⟩;rw [a.nl];refine⟨a.row.1,?_⟩;rcases a.row.2 with⟨hv,al⟩ | ⟨g,ab,be,hv,bo,hg,hc,_,_,ht⟩
     ·exact⟨none,0,by rw [al];exact hv,x8,.inl al⟩
     ·refine⟨some ⟨g,0,none⟩,ab,hv,hc,.inr ⟨g,0,be,rfl,fun x=>by have:=p.mlt g x;omega,hg,?_⟩⟩;intro i u P;rw [Nat.zero_add];rw [<- ht,List.getElem?_take] at P;split at P
      ·simpa using P
      ·cases P
    have HT:Hid (t.ns.length<=s.ns.length+(l.map (BB m)).sum):=show _<=_ from by have Z:=Pl.DH (l.map (BB m)) k;have h3:=a.zl;omega
    obtain⟨L,f,rfl,V,_⟩:=iJ a.row a.nl;clear ak G;go_wp2_with fail;go_ret2;exact⟨_,_,rfl,aM (aI E) a.gm,t,a.sg,a.pb,HT,z,.inl ⟨l,rfl,N,rfl,bd⟩⟩
 ·have N:Hid (eJ t=false):=by
   show eJ t=false;unfold eJ;split
   ·exact absurd ⟨_,rfl⟩ I
   ·rfl
  obtain⟨x,C⟩:=h.KR I;clear h I hR hz hB;rcases C with rfl | rfl | rfl
  ·exact zD9
  ·exact zD9
  ·exact zD9
theorem vZ{f:Tr->Option PF}{a:List Tr}(h:¬a.length=2):Pl.J9 f a=none:=by
 match a,h with
 | [],_=>rfl
 | [_],_=>rfl
 | _::_::_::_,_=>rfl
theorem zZ{f:Tr->Option PF}{a b:Tr}(h:eJ a=false):Pl.EA f a b=none:=by
 unfold Pl.EA;unfold eJ at h;split
 ·rw [if_neg zO3]
 ·rfl
theorem YB{l:List Tr}{b:Tr}(h:Pl.CJ l=true)(q:Nat):EF (Pl.EA (AD n) (.agg l) b) q=(EF (AD n b) q).map fun r=>(BN .lambda [] .nil [r.1] (l.map Pl.strOf),r.2):=by
 simp only [Pl.EA,h,if_true]
 cases AD n b with
 | none=>rfl
 | some f=>simp [EF,BN,Pl.BC,Pl.BO,Pl.BV]
theorem qQ(n:Nat)(hF:GB n)(M:Q5)(w:World)(s:Sg)(tb mb:Nat)(ps:List (PV×PV))(sl:Value)(vs:List Value)(N:List Tr)(hR:BM M w s tb mb ps)(P:CD M w sl vs)(Q:C9 M n w vs N)(hB:∀x∈N,cL n x)(hz:s.ns.length+(N.map (BB n)).sum<=BS)(o:FR)(ho:o=EF (Pl.J9 (AD n) N) ps.length) :Q2 97 #[D2 tb,sl] w fun e D=>A5 M w s tb mb ps o (N.map (BB n)).sum e D:=by
 have R:Hid (BM M w s tb mb ps):=hR;have E:=Q.1;unfold D2;by_cases O:N.length=2
 ·obtain⟨j,c,rfl⟩:=fO O;obtain⟨u1,u2,rfl⟩:=fO (E.trans O);have r1:=Q.2 0 u1 j rfl rfl;have r2:=Q.2 1 u2 c rfl rfl;have S:s.ns.length+BB n j+BB n c<=BS:=by simp only [List.map_cons,List.map_nil,List.sum_cons,List.sum_nil] at hz;omega
  have HZ:Hid (s.ns.length+BB n j+BB n c<=BS/\BB n j+BB n c=([j,c].map (BB n)).sum):=⟨S,w9⟩
  have t:=bB w (A0 tb);have F:Hid (Q2 121 #[.agg #[Q0 tb],u1] (w.alloc (A0 tb)).drew fun e D=>∃v2 G,e=.returned (.tuple #[v2,G])/\Hid (P8 M (w.alloc (A0 tb)).drew s tb mb ps j (BB n j) v2 G D)) :=XK n M _ s tb mb ps u1 j (hR.below t.drew) (r1.go (Stp.AA t.drew)) (hB j w9) x8;have ab:Hid (JI M w u2 (EF (AD n c)) (BB n c)):=hF M w u2 c r2 (hB c w9);have HO:Hid (o=EF (Pl.EA (AD n) j c) ps.length):=ho;obtain⟨T1,x1,rfl,o1⟩:=r1.iface;obtain⟨T2,x2,rfl,o2⟩:=r2.iface;obtain⟨g,ac,ad,rfl,T,hg,k0,ks⟩:=(Sl.C7 P).cell0;have k1:=ks 0 _ rfl;simp only [Nat.zero_add,c_,z_] at k1 T ⊢;have H:Hid (∀U:World,w.grownBy U (some mb)->U.cell? ⟨g,ac+1,none⟩=some (.iface T2 x2)):=fun U ae=>wQ P ae R.FV 1 _ rfl;have af:Hid (mb<w.heap.size):=R.B3.lt.2;have ag:Hid (Q3 w (w.alloc (A0 tb)).drew):=t.drew;have ah:Hid ((w.alloc (A0 tb)).heap[w.heap.size]?=some (A0 tb)):=heap_alloc_new _ _;clear Q hB hF r1 r2 E O ks hR o1 o2 hz ho P t S;go_enter func97,ntmps97
  go_upto_region 40 with fail
  go_cut [6,7] (fun v6 e7 U=>Hid (P8 M (w.alloc (A0 tb)).drew s tb mb ps j (BB n j) v6 e7 U))
  case first =>
   go_region_with (go_at_call 121;refine Calls.mono F ?_;rintro e w2 ⟨v,G,rfl,HQ⟩)
   all_goals
    go_wp2_with fail
    go_meet
    exact HQ
  case rest =>
   obtain⟨m,ai⟩:∃m,m=wc:=⟨_,rfl⟩
   subst ai;obtain⟨u,k,y,d,I,b,f⟩:=hcut.out;have z:Hid (w.grownBy m (some mb)):=aM (aI ag) u;have c0:m.cell? ⟨w.heap.size,0,none⟩=some (Q0 tb):=by have:=(u.block w.heap.size (by show _<(w.alloc _).heap.size;simp) (by have:=af.out;simp;omega)).trans ah;exact aA this 0
   have c1:=H.out m z;rcases f with⟨l,rfl,V,J,W⟩ | ⟨X,es,J⟩
   ·subst J;have aj:Hid (Q2 62 #[.agg #[Q0 tb],.iface T2 x2] m.drew fun e D=>∃v G,e=.returned (.tuple #[v,G])/\Hid (LM M m.drew k tb mb ps (EF (AD n c) ps.length) (BB n c) v G D)) :=(ab M m.drew k tb mb ps ((eL z R.FV).trans (Stp.AA r_.drew)) (b.below r_.drew) (by have:=HZ.1;omega)).mono (fun e D h=>h.one);have ak:Hid (EI M m k u6 (l.map Pl.strOf)):=W;have K:Hid (DK s k/\k.pb=s.pb/\k.ns.length<=s.ns.length+BB n (.agg l)):=⟨y,d,I⟩
    have Y:Hid (o=(EF (AD n c) ps.length).map fun r=>(BN .lambda [] .nil [r.1] (l.map Pl.strOf),r.2)):=HO.trans (YB V _);obtain⟨an,al,Z⟩:=W.ex;simp only [List.length_map] at Z;obtain⟨_,am,aa,rfl,_⟩:=Z;clear hcut u y d I b V F k0 k1 al
    go_upto_region 40 with fail
    go_cut [7,8] (fun e7 v8 wy=>Hid (LM M m.drew k tb mb ps (EF (AD n c) ps.length) (BB n c) v8 e7 wy))
    case first =>
     go_region_with (go_at_call 62;refine Calls.mono aj ?_;rintro e w2 ⟨v,G,rfl,HQ⟩)
     all_goals
      go_wp2_with fail
      go_meet
      exact HQ
    case rest =>
     obtain⟨a,A,i,B,f⟩:=hcut.out;have HG:Hid (w.grownBy wc (some mb)):=aM z ⟨a.os,a.tape,a.output,a.size,a.block⟩
     have L:Hid (DK s A/\A.ns.length<=s.ns.length+([.agg l,c].map (BB n)).sum):=⟨K.1.trans i,by
      have h1:=K.2.2;have O:=HZ.2
      omega⟩
     rcases f with⟨r,hr,J,b,p⟩ | ⟨hr,d,b,es,J⟩
     ·subst J;have q:Hid (o=some (BN .lambda [] .nil [r.1] (l.map Pl.strOf),r.2)):=show o=_ from by rw [Y.out,hr];rfl
      have C:Hid (BM M wc A tb mb (ps++r.2)/\CP M wc A (.iface 269 (.agg #[.slice am l.length aa,u8])) (BN .lambda [] .nil [r.1] (l.map Pl.strOf))):=⟨b,.lambda _ _ _ [] .nil .nothing _ (ak.go (eL ⟨a.os,a.tape,a.output,a.size,a.block⟩ R.FV) i.le) p⟩
      obtain⟨T9,x9,rfl⟩:=p.iface;clear hcut a i B hr b p;go_wp2_with fail;go_ret2;exact⟨HG,A,L.1,L.2,.inl ⟨_,_,q,rfl,C.1,C.2⟩⟩
     ·subst J;have q:Hid (o=none):=show o=_ from by rw [Y.out,hr];rfl
      have C:Hid (BM M wc A tb mb ps/\A.pb=s.pb):=⟨b,d.trans K.2.1⟩
      clear hcut a i B hr b d;unfold aY;go_wp2_with fail;go_ret2;exact⟨HG,A,L.1,L.2,.inr ⟨q,C.2,C.1,_,_,rfl⟩⟩
   ·subst J;have q:Hid (o=none):=show o=_ from by rw [HO.out,zZ X];rfl
    have C:Hid (BM M m k tb mb ps/\k.pb=s.pb):=⟨b,d⟩
    have L:Hid (DK s k/\k.ns.length<=s.ns.length+([j,c].map (BB n)).sum):=⟨y,by have:=HZ.2;omega⟩
    clear hcut u y I b d X F k0 k1;unfold aY;go_wp2_with fail;go_ret2;exact⟨z,k,L.1,L.2,.inr ⟨q,C.2,C.1,_,_,rfl⟩⟩
 ·have HE:Hid (o=none):=show o=none from by rw [ho,vZ O];rfl
  obtain⟨ao,ad,rfl,_⟩:=Sl.C7 P;have ap:((vs.length:Int)!=2)=true:=by simp;omega
  clear P Q hB hR O E ho hF hz;go_enter func97,ntmps97;go_wp2_with (go_at_call 92;refine(aS _ _).mono ?_;rintro e D ⟨rfl,rfl⟩);go_ret2;exact⟨aI (bB w _),s,DK.refl _,Nat.le_add_right _ _,.inr ⟨HE,rfl,R.below (bB w _),_,_,rfl⟩⟩
theorem iV{P:Program}(t f e:TypeId)(i:TypeInfo)(g:P.underlying t=some (.slice e))(hi:P.info? e=some i)(d:Addr)(n a:Nat)(b:n<=a)(p:Option Addr)(c:Nat) :(Builtin.append_ #[t,t] f #[.slice (some d) n a,.slice p 0 c]).run P w=.ok (.slice (some d) n a) w:=by cases p<;>simp [Builtin.append_,run_underlying g,sizeOf,typeInfo,hi,Builtin.lenOf,Builtin.firstCells,b,storeCells,loadCells,loadCellsFrom]
theorem iC{P:Program}{d:Array Oper}{o:Oper}{a:Act}{K:Act->World->Prop}{Q:Exit->Act->World->Prop}{E:Prop}(g:o.guard=none)(s x:Operand)(t:TypeId)
  (l:o.op=.call {callee:=.builtin .append,args:=#[s,x],argTypes:=#[t,t]})
  (e:TypeId) (i:TypeInfo) (m:P.underlying t=some (.slice e)) (hi:P.info? e=some i)
  (j:Addr) (n b:Nat) (k:n<=b) (p:Option Addr) (c:Nat) (q:a.eval s=.slice (some j) n b) (r:a.eval x=.slice p 0 c)
  (h:K (a.put o.dst (.slice (some j) n b)) w):if Region.wanted o (yielded d a.tmps)=true then Oper.wp P o a w K Q else E:=by
 have u:Region.wanted o (yielded d a.tmps)=true:=by simp [Region.wanted,g]
 rw [if_pos u];have f:=iV (P:=P) (w:=w) t o.type e i m hi j n b k p c;unfold Oper.wp;simp [execOp,l,resolve,invoke,builtin,q,r,f,Result.andThen];exact h
theorem tP{P:Program}{g:Array Oper}{o:Oper}{a:Act}{K:Act->World->Prop}{Q:Exit->Act->World->Prop}{E:Prop}(k:o.guard=none)(f:FuncId)(m:Array Operand)(n:Array TypeId)
  (p:o.op=.call {callee:=.value (.func f),args:=m,argTypes:=n}) {l:Func} {c:Code} (q:P.funcs[f]?=some l) (d:(l.name == "runtime.NumGoroutine")=false) (r:l.body=some c)
  (b:Array Value) (s:m.map a.eval=b) {R:Ending->World->Prop} (t:Calls P f b w R) (h:∀e j,R e j->∃v,e=.returned v/\K (a.put o.dst v) j):if Region.wanted o (yielded g a.tmps)=true then Oper.wp P o a w K Q else E:=by
 have u:Region.wanted o (yielded g a.tmps)=true:=by simp [Region.wanted,k]
 rw [if_pos u];have i:=Go.MuLone.run_callFunc_enter (P:=P) q d r b w;have x:(execOp a.eval o).run P w=.ok (.enter f b) w:=by subst s;simp [execOp,p,resolve,invoke,Deferred.ofValue,Act.eval,i]
 unfold Oper.wp;rw [x,Oper.upon_enter];refine t.mono (fun e j y=>?_);obtain⟨v,rfl,z⟩:=h e j y;exact z
theorem kO{P:Program}{d:Array Oper}{o:Oper}{a:Act}{K:Act->World->Prop}{Q:Exit->Act->World->Prop}{E:Prop}(g:o.guard=none)(f:FuncId)(i j:Operand)(n:Array TypeId)
  (q:o.op=.call {callee:=.value (.func f),args:=#[i,j],argTypes:=n}) {k:Func} {c:Code} (r:P.funcs[f]?=some k) (b:(k.name == "runtime.NumGoroutine")=false) (s:k.body=some c)
  (l m:Value) (t:a.eval i=l) (u:a.eval j=m) {R:Ending->World->Prop} (x:Calls P f #[l,m] w R) (h:∀e p,R e p->∃v,e=.returned v/\K (a.put o.dst v) p):if Region.wanted o (yielded d a.tmps)=true then Oper.wp P o a w K Q else E :=
 tP g f #[i,j] n q r b s #[l,m] (by simp [t,u]) x h
structure I5(w wr:World)(a b:Nat)(nS vS:Value)(nvs vvs:List Value):Prop where
 below:Q3 w wr
 G0:wr.ownsRow w.heap.size PT 1 nS a nvs
 I6:wr.ownsRow w.heap.size PT 1 vS b vvs
 apart:∀r,nS.ownBlock=some r->vS.ownBlock≠some r
theorem qT(w:World)(e:TypeId)(h:base<=w.heap.size):(w.alloc (.cells #[] e)).ownsRow base e 1 (.slice (some ⟨w.heap.size,0,none⟩) 0 0) 0 [] :=⟨rfl,.inr ⟨w.heap.size,0,#[],rfl,h,heap_alloc_new _ _,n_,o6,rfl,rfl⟩⟩
theorem I5.start(w:World):Hid (I5 w ((w.alloc (.cells #[] PT)).alloc (.cells #[] PT)) 0 0 (.slice (some ⟨w.heap.size,0,none⟩) 0 0) (.slice (some ⟨w.heap.size+1,0,none⟩) 0 0) [] []):=by
 have e:(w.alloc (.cells #[] PT)).heap.size=w.heap.size+1:=by simp
 refine I5.mk (b_.alloc w9 _) ((qT w PT n_).alloc _) ?_ (fun r h=>by simp [Value.ownBlock] at h ⊢;omega);rw [<- e];exact qT _ PT w9
theorem kV{a b:World}{x:Value}(h:a.ownsRow base PT 1 v n vs)(l:a.grownBy b x.ownBlock)(d:∀r,v.ownBlock=some r->x.ownBlock≠some r):b.ownsRow base PT 1 v n vs:=by
 refine⟨h.1,?_⟩;rcases h.2 with m | ⟨g,f,i,j,o,k,c⟩
 ·exact .inl m
 ·refine .inr ⟨g,f,i,j,o,?_,c⟩;rw [l.block g (aB k) (fun e=>d g (by rw [j];rfl) e.symm)];exact k
theorem I5.LE{w3:World}{a b:Nat}{nS vS:Value}{nvs vvs:List Value}(h:I5 w wr a b nS vS nvs vvs){u:Value}
  (c:w3.ownsRow w.heap.size PT 1 (.slice (some ⟨g',0,none⟩) (a+1) cap') (a+1) (nvs++[u])) (i:(wr.alloc o).grownBy w3 nS.ownBlock) (f:nS.ownBlock=some g'\/g'=wr.heap.size+1) :
  I5 w w3 (a+1) b (.slice (some ⟨g',0,none⟩) (a+1) cap') vS (nvs++[u]) vvs:=by
 have g:=h.G0.lt;refine⟨?_,c,kV (h.I6.alloc o) i (fun r d e=>h.apart r e d),?_⟩
 ·refine(h.below.alloc h.below.size o).grown i ?_ ?_
  ·have:=h.below.size;simp;omega
  ·intro k l;have:=(g k l).1;omega
 ·intro r d;simp only [Value.ownBlock,o_] at d;subst d;rcases f with j | j
  ·exact h.apart _ j
  ·intro e;have:=(h.I6.lt _ e).2;omega
theorem I5.KK{w3:World}{a b:Nat}{nS vS:Value}{nvs vvs:List Value}(h:I5 w wr a b nS vS nvs vvs){u:Value}
  (c:w3.ownsRow w.heap.size PT 1 (.slice (some ⟨g',0,none⟩) (b+1) cap') (b+1) (vvs++[u])) (g:(wr.alloc o).grownBy w3 vS.ownBlock) (d:vS.ownBlock=some g'\/g'=wr.heap.size+1) :
  I5 w w3 a (b+1) nS (.slice (some ⟨g',0,none⟩) (b+1) cap') nvs (vvs++[u]):=by
 have f:=h.I6.lt;refine⟨?_,kV (h.G0.alloc o) g h.apart,c,?_⟩
 ·refine(h.below.alloc h.below.size o).grown g ?_ ?_
  ·have:=h.below.size;simp;omega
  ·intro k l;have:=(f k l).1;omega
 ·intro r i e;simp only [Value.ownBlock,o_] at e;subst e;rcases d with j | j
  ·exact h.apart _ i j
  ·have:=(h.G0.lt _ i).2;omega
theorem zL(h:w.ownsRow base PT 1 v n vs):w.ownsRow 0 PT 1 v n vs:=⟨h.1,h.2.imp id (fun⟨g,b,d,a,_,c⟩=>⟨g,b,d,a,Nat.zero_le _,c⟩)⟩
theorem qU(w:World)(e:TypeId)(h:base<=w.heap.size)(u:Value):(w.alloc (.cells #[u] e)).ownsRow base e 1 (.slice (some ⟨w.heap.size,0,none⟩) 1 1) 1 [u] :=⟨rfl,.inr ⟨w.heap.size,1,#[u],rfl,h,heap_alloc_new _ _,n_,o6,rfl,rfl⟩⟩
theorem XR{a:List Tr}(d:∀k,M k->k<base)(h:C9 M n w vs a)(c:w.ownsRow base PT 1 v a.length vs)(e:a.length<=1000):AN (fun k=>¬M k) (n+1) w (.iface 166 v) (.agg a) :=⟨v,vs,rfl,fun r b f=>by have:=(c.lt r b).1;have:=d r f;omega,zL c,h.2,e⟩
theorem qV(h:∀k,M k->k<base)(e:w.ownsRow base PT 1 v n vs):CD M w v vs:=by
 have f:vs.length=n:=e.1.trans (Nat.mul_one _);refine⟨w9,?_⟩;rcases e.2 with⟨b,j⟩ | ⟨g,c,d,b,l,m,p,_,_,o⟩
 ·exact⟨none,0,by rw [f,j];exact b,x8,.inl x8⟩
 ·refine⟨some ⟨g,0,none⟩,c,by rw [f];exact b,x8,.inr ⟨g,0,d,rfl,fun x=>by have:=h g x;omega,m,?_⟩⟩;intro i u a;rw [Nat.zero_add];rw [<- o,List.getElem?_take] at a;split at a
  ·simpa using a
  ·cases a
theorem rR{nv bv:Value}{ns bd:Tr}(f:∀k,M k->k<w.heap.size)(d:AN (fun k=>¬M k) n w nv ns)(g:AN (fun k=>¬M k) n w bv bd)(o:Obj)(h:o=.cells #[.iface 168 (.string ⟨#[108,97,109,98,100,97]⟩),nv,bv] PT (0,0)) :AN (fun k=>¬M k) (n+1) (w.alloc o) (.iface 166 (.slice (some ⟨w.heap.size,0,none⟩) 3 3)) (.agg [.lit (.string Pl.C3),ns,bd]):=by
 have c:Q3 w (w.alloc o):=bB w o;refine⟨_,[.iface 168 (.string ⟨#[108,97,109,98,100,97]⟩),nv,bv],rfl,fun r e j=>by simp [Value.ownBlock] at e;subst e;have:=f _ j;omega,⟨rfl,.inr ⟨w.heap.size,3,_,rfl,Nat.zero_le _,by rw [h];exact heap_alloc_new _ _,w9,by simp [maxLen],rfl,rfl⟩⟩,?_,w9⟩;intro i u x a b
 match i,a,b with
 | 0,a,b =>
  simp only [List.getElem?_cons_zero,o_] at a b;subst a b
  cases n with
  | zero=>exact d.elim
  | succ n=>rfl
 | 1,a,b =>simp at a b;subst a b;exact d.go (Stp.AA c)
 | 2,a,b =>simp at a b;subst a b;exact g.go (Stp.AA c)
 | _+3,a,_=>simp at a
theorem lA{ok:Q5}:∀(n m:Nat)(v:Value)(t:Tr),AN ok n w v t->n<=m->BB m t=BB n t
 | 0,_,_,_,h,_=>h.elim
 | _+1,0,_,_,_,h=>by omega
 | n+1,m+1,v,t,h,j=>by
  match t,h with
  | .lit (.int _ _),_=>rfl
  | .lit (.bool _),_=>rfl
  | .lit (.string _),_=>rfl
  | .agg a,h =>
   obtain⟨k,b,_,_,d,e,_⟩:=h;show(a.map (BB m)).sum=(a.map (BB n)).sum
   congr 1
   apply List.map_congr_left;intro x f;obtain⟨i,c⟩:=List.mem_iff_getElem?.1 f;have l:b.length=a.length:=d.1.trans (Nat.mul_one _);have g:=(s_ c).1;exact lA n m _ x (e i b[i] x (g_ x8) c) x8
theorem X7(o:Option PF)(f:Tr->Option PF)(a:List Tr)(b:Nat):(Pl.GG (EF o::a.map fun t=>EF (f t)) b).map (fun r=>(BN .call [] .nil r.1 [],r.2))=EF (o.bind fun h=>(Pl.B1 f a).map fun r=>BN .call [] .nil (h::r) []) b:=by
 simp only [Pl.GG]
 cases o with
 | none=>rfl
 | some h =>
  simp only [EF,Option.map_some,Option.bind_some];rw [Pl.KP]
  cases Pl.B1 f a with
  | none=>rfl
  | some l=>simp [BN,Pl.BC,Pl.BO]
def JG(n:Nat):Prop:=∀(M:Q5)(w:World)(v:Value)(a b:Tr),AN (fun k=>¬M k) (n+1) w v (.agg [.lit (.string Pl.C3),a,b])->cL n a->cL n b->JI M w v (EF (Pl.EA (AD n) a b)) (BB n a+BB n b)
theorem nX{x:Tr}(h:¬∃a b,x=.agg [a,b]):Pl.BI x=false:=by
 unfold Pl.BI;split
 ·exact absurd ⟨_,_,rfl⟩ h
 ·rfl
theorem vY{f:Tr->Option PF}{a:List Tr}(h:¬a.length=2):Pl.J8 f a=none:=by
 match a,h with
 | [],_=>rfl
 | [_],_=>rfl
 | _::_::_::_,_=>rfl
theorem letF_bad{f:Tr->Option PF}{l:List Tr}{b:Tr}(h:l.all Pl.BI=false):Pl.D5 f (.agg l) b=none:=by simp [Pl.D5,h]
theorem pD{f:Tr->Option PF}{p b:Tr}(h:¬∃l,p=.agg l):Pl.D5 f p b=none:=by
 unfold Pl.D5;split
 ·exact absurd ⟨_,rfl⟩ h
 ·rfl
theorem X9{f:Tr->Option PF}{l:List Tr}{b:Tr}(h:l.all Pl.BI=true):Pl.D5 f (.agg l) b=(Pl.EA f (.agg (l.map Pl.DC)) b).bind fun h=>(Pl.B1 f (l.map Pl.BU)).map fun r=>BN .call [] .nil (h::r) []:=by simp [Pl.D5,h]
theorem vV{ok:Q5}:∀{l:List Tr},BY (AN ok (m+1) w) vs l->l.all Pl.BI=true->((l.map Pl.DC).map (BB (m+1))).sum+((l.map Pl.BU).map (BB (m+1+1))).sum=(l.map (BB (m+1))).sum:=by
 intro l c d
 induction l generalizing vs with
 | nil=>rfl
 | cons x r h =>
  match vs,c with
  | [],c=>have:=c.1;simp at this
  | v::vs,c =>
   simp only [List.all_cons,Bool.and_eq_true] at d;have j:BY (AN ok (m+1) w) vs r:=⟨by have:=c.1;simpa using this,fun i u y k n=>c.2 (i+1) u y (by simpa using k) (by simpa using n)⟩
   have o:=c.2 0 v x rfl rfl;have:=h j d.2
   obtain⟨a,b,rfl⟩:∃a b,x=.agg [a,b]:=by
    unfold Pl.BI at d;split at d
    ·exact⟨_,_,rfl⟩
    ·simp at d
   obtain⟨C,p,_,_,q,e,_⟩:=o;have s:p.length=2:=q.1.trans (Nat.mul_one _);obtain⟨f,g,rfl⟩:=fO s;have t:=e 0 f a rfl rfl;have z:=e 1 g b rfl rfl;have A:=lA m (m+1) f a t x8;have B:=lA m (m+1+1) g b z x8;simp only [List.map_cons,List.sum_cons,Pl.DC,Pl.BU,A,B];show _=([a,b].map (BB m)).sum+_;simp only [List.map_cons,List.map_nil,List.sum_cons,List.sum_nil];omega
theorem vW{l:List Tr}(h:C9 M m w vs l)(j:∀x∈l,cL m x)(hp:l.all Pl.BI=true)(q:Nat):(∀a∈l.map Pl.DC,cL q a)/\(∀a∈l.map Pl.BU,cL q a):=by
 have e:∀x∈l,∃a b,x=.agg [a,b]/\cL q a/\cL q b:=by
  intro x c;obtain⟨i,k⟩:=List.mem_iff_getElem?.1 c;obtain⟨u,_,n⟩:=h.at_ k;have g:=mF m (q+1) u x n (j x c);have d:=List.all_eq_true.1 hp x c;unfold Pl.BI at d;split at d
  ·next a b=>exact⟨a,b,rfl,g a w9,g b w9⟩
  ·simp at d
 constructor
 ·intro a f;obtain⟨x,c,rfl⟩:=List.mem_map.1 f;obtain⟨a,b,rfl,o,_⟩:=e x c;exact o
 ·intro a f;obtain⟨x,c,rfl⟩:=List.mem_map.1 f;obtain⟨a,b,rfl,_,p⟩:=e x c;exact p
theorem X6{l:List Tr}{bd:Tr}(a:C9 M m w vs l)(hp:l.all Pl.BI=true):((BB (m+1) (.agg (l.map Pl.DC))+BB (m+1) bd)::(l.map Pl.BU).map (BB (m+1))).sum=BB (m+1) (.agg l)+BB (m+1) bd:=by
 rw [List.sum_cons];show((l.map Pl.DC).map (BB m)).sum+_+_=(l.map (BB m)).sum+_
 cases m with
 | zero =>
  cases l with
  | nil=>simp
  | cons x r =>obtain⟨u,_,h⟩:=a.at_ (i:=0) (x:=x) rfl;exact h.elim
 | succ m =>have:=vV a hp;omega
theorem LM.from_{wz:World}{ps:List (PV×PV)}{o:FR}{ev:Value}(h:LM M wz s tb mb ps o z v ev w')(a:Q3 w wz):LM M w s tb mb ps o z v ev w':=⟨aM (aI a) h.1,h.2⟩
theorem zW(m:Nat)(L:GB (m+1))(N:JG (m+1))(M:Q5)(w u:World)(s:Sg)(tb mb:Nat)(ps:List (PV×PV))(l:List Tr)(bd:Tr)(O:List Value)(A:Value)(a:List Value)(P:BM M w s tb mb ps)(H:Q3 w u)(B:C9 M m w O l)(I:∀x∈l,cL m x)(C:cL (m+1) bd)(hp:l.all Pl.BI=true)(J:l.length<=1000)
  (n:AN (fun k=>¬M k) (m+1+1) u A (.agg [.lit (.string Pl.C3),.agg (l.map Pl.DC),bd])) (D:C9 M m w a (l.map Pl.BU)) (Q:s.ns.length+(BB (m+1) (.agg l)+BB (m+1) bd)<=BS) (o:FR) (R:o=EF (Pl.D5 (AD (m+1)) (.agg l) bd) ps.length) :
  ∀(c:World)(b:Value),Q3 u c->CD M c b (A::a)->Q2 99 #[.agg #[Q0 tb],b] c fun e K=>∃v y,e=.returned (.tuple #[v,y])/\Hid (LM M w s tb mb ps o (BB (m+1) (.agg l)+BB (m+1) bd) v y K):=by
 intro c b p S;have f:Q3 w c:=H.trans (p.mono H.size);obtain⟨U,X⟩:=vW B I hp m;obtain⟨_,V⟩:=vW B I hp (m+1);have E:a.length=l.length:=by have:=D.1;simpa using this
 have d:=X6 (bd:=bd) B hp
 have:=S7 M c s tb mb ps b (A::a) (EF (Pl.EA (AD (m+1)) (.agg (l.map Pl.DC)) bd)::(l.map Pl.BU).map fun t=>EF (AD (m+1) t)) ((BB (m+1) (.agg (l.map Pl.DC))+BB (m+1) bd)::(l.map Pl.BU).map (BB (m+1))) (P.below f) S (by simp [E]) w9 r7 w9 (by rw [d];exact Q) (fun v W=>by
   rcases List.mem_cons.1 W with rfl | h
   ·obtain⟨T,x,e,_⟩:=n.iface;exact⟨T,x,e⟩
   ·exact D.iface v h) (fun i v F z j g q=>by
   cases i with
   | zero =>simp only [List.getElem?_cons_zero,o_] at j g q;subst j g q;exact N M c _ _ _ (n.go (Stp.AA p)) U C
   | succ i =>
    rw [List.getElem?_cons_succ] at j g q;rw [List.getElem?_map,Option.map_eq_some_iff] at g q;obtain⟨t,G,rfl⟩:=g;obtain⟨Y,r,rfl⟩:=q;rw [G] at r;obtain rfl:=i_ r
    exact L M c v t (AN.up _ _ _ _ (Nat.le_succ _) ((D.2 i v t j G).go (Stp.AA f))) (V t (q_ G))) o (by rw [X7,R,X9 hp])
 rw [d] at this;refine this.mono (fun e K h=>?_);obtain⟨v,y,j,g⟩:=h.one;exact⟨v,y,j,g.from_ f⟩
theorem p_let(n:Nat)(hF:GB n)(hL:JG n)(M:Q5)(w:World)(s:Sg)(tb mb:Nat)(ps:List (PV×PV))(sl:Value)(vs:List Value)(ts:List Tr)(hR:BM M w s tb mb ps)(hS:CD M w sl vs)(hA:C9 M n w vs ts)(hB:∀x∈ts,cL n x)(hz:s.ns.length+(ts.map (BB n)).sum<=BS)(o:FR)(ho:o=EF (Pl.J8 (AD n) ts) ps.length) :Q2 98 #[D2 tb,sl] w fun e E=>A5 M w s tb mb ps o (ts.map (BB n)).sum e E:=by
 obtain⟨i0,ad,av,aw,ax⟩:=info_parts Tryz.TX;have dm:=Tryz.EO;have dn:=Tryz.E7;have dp:=Tryz.FN;have dq:=Tryz.ET;have S:Hid (BM M w s tb mb ps):=hR;have bo:Hid (Q3 w (w.alloc (A0 tb))):=bB w _;have ch:Hid ((w.alloc (A0 tb)).heap[w.heap.size]?=some (A0 tb)):=heap_alloc_new _ _;have U:=hA.1;unfold D2;by_cases q:ts.length=2
 ·obtain⟨pr,G,rfl⟩:=fO q;obtain⟨u1,u2,rfl⟩:=fO (U.trans q);have r1:=hA.2 0 u1 pr rfl rfl;have r2:=hA.2 1 u2 G rfl rfl;obtain⟨g,F,ci,rfl,bp,hg,k0,ks⟩:=(Sl.C7 hS).cell0;have k1:=ks 0 _ rfl;simp only [Nat.zero_add,c_,z_] at k1 bp ⊢;have cj:Hid (AN (fun k=>¬M k) n w u2 G):=r2;have bq:Hid (cL n G/\cL n pr):=⟨hB G w9,hB pr w9⟩
  obtain⟨T2,x2,rfl,L⟩:=r2.iface;have HF:Hid (GB n):=hF;have HL:Hid (JG n):=hL;have HO:Hid (o=EF (Pl.D5 (AD n) pr G) ps.length):=ho;have HZ:Hid (s.ns.length+(BB n pr+BB n G)<=BS/\([pr,G].map (BB n)).sum=BB n pr+BB n G):=⟨by simpa using hz,w9⟩
  clear hA hS hF hL r2 U q ks L hR hB hz ho;by_cases ae:∃l,pr=.agg l
  ·obtain⟨l,rfl⟩:=ae
   obtain⟨m,rfl⟩:∃m,n=m+1:=by
    cases n with
    | zero=>exact r1.elim
    | succ m=>exact⟨m,rfl⟩
   obtain⟨sb,bs,rfl,ay,az,an⟩:=r1.RQ;have ba:=az.1;have ck:Hid (CD M w sb bs):=ay;obtain⟨ao,di,rfl,bb,V⟩:=Sl.C7 ay;rw [ba] at k0 bb;have HV:Hid (bs.length=l.length):=ba;have HC:Hid (∀(i:Nat)(u:Value),bs[i]?=some u->∃g F,ao=some ⟨g,F,none⟩/\g<w.heap.size/\w.cell? ⟨g,F+i,none⟩=some u):=V;have HA:Hid (C9 M m w bs l):=az;clear ba V az r1 ay ck;go_enter func98,ntmps98;go_wp2_with fail
   go_loopw [8,9,33] (fun nS vS i wr=>∃(k:Nat)(f c:List Value),k<=l.length/\i=.int .i64 k/\Hid (I5 (w.alloc (A0 tb)) wr k k nS vS f c)/\Hid ((l.take k).all Pl.BI=true)/\Hid (C9 M m w f ((l.take k).map Pl.DC))/\Hid (C9 M m w c ((l.take k).map Pl.BU))) (fun _ _ i _=>l.length-(intOf i).toNat)
   case atStart =>refine⟨0,[],[],Nat.zero_le _,rfl,?_,zQ6,BY.nil _,BY.nil _⟩;have:=I5.start (w.alloc (A0 tb));rw [show(w.alloc (A0 tb)).heap.size=w.heap.size+1 from by simp] at this;exact this
   case round =>
    obtain⟨k,f,c,hk,rfl,W,HP,af,X⟩:=hrel
    have bc:Hid (Below (w.heap.size+1) (w.alloc (A0 tb)) wr):=show Below _ _ _ from by
     have:=W.below
     exact zE4
    have H:Hid (Q3 w wr):=show Below _ _ _ from bo.trans (bc.mono x8);have dr:w.heap.size+1<=wr.heap.size:=by have:=bc.size;simpa using this
    by_cases br:k<l.length
    ·obtain⟨u,hu⟩:∃u,bs[k]?=some u:=⟨bs[k]' zL7,g_ zL7⟩
     obtain⟨x,hx⟩:∃x,l[k]?=some x:=⟨l[k],g_ br⟩
     obtain⟨g1,ap,rfl,cl,hc⟩:=HC.out k u hu;have cm:wr.cell? ⟨g1,ap+k,none⟩=some u:=(H.cell (p:=⟨g1,ap+k,none⟩) cl).trans hc;have hr:=HA.2 k u x hu hx;have HX:Hid (l[k]?=some x):=hx;clear hu hx hc;have dj:(k:Int)<(l.length:Int):=by omega
     by_cases ag:∃xs,x=.agg xs
     ·obtain⟨xs,rfl⟩:=ag
      obtain⟨m',rfl⟩:∃m',m=m'+1:=by
       cases m with
       | zero=>exact hr.elim
       | succ m'=>exact⟨m',rfl⟩
      obtain⟨sx,vx,rfl,ah,N,_⟩:=hr.RQ;by_cases Y:xs.length=2
      ·obtain⟨x0,x1,rfl⟩:=fO Y;obtain⟨y0,y1,rfl⟩:=fO (N.1.trans Y);obtain⟨gx,I,bt,rfl,be,bu,z0,zs⟩:=(Sl.C7 ah).cell0;have z1:=zs 0 y1 rfl;simp only [Nat.zero_add,c_,z_] at z1 be cm;have bf:AN (fun k=>¬M k) (m'+1) w y0 x0:=AN.up _ _ _ _ (Nat.le_succ _) (N.2 0 y0 x0 rfl rfl);have bg:AN (fun k=>¬M k) (m'+1) w y1 x1:=AN.up _ _ _ _ (Nat.le_succ _) (N.2 1 y1 x1 rfl rfl);have cn:Hid ((l.take (k+1)).all Pl.BI=true):=eA HP HX rfl;have co:Hid (C9 M (m'+1) w (f++[y0]) ((l.take (k+1)).map Pl.DC)):=show BY _ _ _ from by rw [c8 _ HX.out];exact af.snoc bf
       have cp:Hid (C9 M (m'+1) w (c++[y1]) ((l.take (k+1)).map Pl.BU)):=show BY _ _ _ from by rw [c8 _ HX.out];exact X.snoc bg
       obtain⟨O,P,rfl,cq⟩:=bf.iface;obtain⟨ai,aj,rfl,cr⟩:=bg.iface;have ds:wr.cell? ⟨gx,I,none⟩=some (.iface O P):=(H.cell (p:=⟨gx,I,none⟩) bu).trans z0
       have cs:Hid (wr.ownsRow (w.heap.size+1) PT 1 u8 k f):=show World.ownsRow _ _ _ _ _ _ _ from by
        have:=W.G0
        exact zE4
       have ct:Hid (∀(A:World)(R d:Nat)(o:Obj),A.ownsRow (w.heap.size+1) PT 1 (.slice (some ⟨R,0,none⟩) (k+1) d) (k+1) (f++[.iface O P])->(wr.alloc o).grownBy A u8.ownBlock->(u8.ownBlock=some R\/R=wr.heap.size+1)->I5 (w.alloc (A0 tb)) A (k+1) k (.slice (some ⟨R,0,none⟩) (k+1) d) u9 (f++[.iface O P]) c/\A.cell? ⟨gx,I+1,none⟩=some (.iface ai aj)/\w.heap.size+1<=A.heap.size/\A.ownsRow (w.heap.size+1) PT 1 u9 k c):=fun A R d o Q q h3=>by
        have hq:=W.LE (o:=o) zN0 q h3;have e1:(w.alloc (A0 tb)).heap.size=w.heap.size+1:=by simp
        have bh:=hq.below;have Z:=hq.I6;unfold Q3 at bh;rw [e1] at bh Z;have bv:Q3 w A:=bo.trans (bh.mono x8);exact⟨hq,(bv.cell (p:=⟨gx,I+1,none⟩) bu).trans z1,by have:=bh.size;omega,Z⟩
       have cu:Hid (∀(A w4:World)(R d g4 B:Nat)(o:Obj),I5 (w.alloc (A0 tb)) A (k+1) k (.slice (some ⟨R,0,none⟩) (k+1) d) u9 (f++[.iface O P]) c->w4.ownsRow (w.heap.size+1) PT 1 (.slice (some ⟨g4,0,none⟩) (k+1) B) (k+1) (c++[.iface ai aj])->(A.alloc o).grownBy w4 u9.ownBlock->(u9.ownBlock=some g4\/g4=A.heap.size+1)->I5 (w.alloc (A0 tb)) w4 (k+1) (k+1) (.slice (some ⟨R,0,none⟩) (k+1) d) (.slice (some ⟨g4,0,none⟩) (k+1) B) (f++[.iface O P]) (c++[.iface ai aj])):=fun A w4 R d g4 B o hq Q q h3 =>hq.KK (o:=o) zN0 q h3;clear ah N zs Y HP af X bf bg hr W;go_wp2_with (first | (at_builtin;refine wpList_append_lies _ rfl _ _ 166 rfl (w.heap.size+1) 160 i0 .nilIface 1 16 underlying166 ad av aw ax rfl w8 u8 k f rfl (cs.alloc _) ⟨wr.heap.size,0,none⟩ 1 1 [.iface O P] rfl rfl (cell_one_new _ _ _) (fun y hy=>by simp at hy;subst hy;exact cq) w8 o6 x8 r7 (wr.heap.size+1) w9 ?_;intro R d A aa J aq _;obtain⟨bw,dt,dk,Z⟩:=ct.out A R d _ aa J aq;have cv:Hid (I5 _ _ _ _ _ _ _ _):=bw;have cw:Hid (World.ownsRow _ _ _ _ _ _ _):=Z;clear aa J aq bw Z) | (at_builtin;refine wpList_append_lies _ rfl _ _ 166 rfl (w.heap.size+1) 160 i0 .nilIface 1 16 underlying166 ad av aw ax rfl w8 u9 k c rfl (cw.alloc _) ⟨A.heap.size,0,none⟩ 1 1 [.iface ai aj] rfl rfl (cell_one_new _ _ _) (fun y hy=>by simp at hy;subst hy;exact cr) w8 o6 x8 r7 (A.heap.size+1) w9 ?_;intro g4 B w4 bi ak bx _))
       go_roundw
       case rel=>exact⟨k+1,_,_,x8,k7,cu A w4 R d g4 B _ cv bi ak bx,cn,co,cp⟩
       case measure=>simp [intOf];omega
      ·have HE:Hid (o=none):=show o=none from by rw [HO.out,letF_bad (gJ HX (nX (by rintro⟨a,b,e⟩;rw [DataW.agg.injEq] at e;subst e;exact Y rfl)))];rfl
       have bz:=N.1;obtain⟨du,bt,rfl,_⟩:=Sl.C7 ah;have cx:((vx.length:Int)!=2)=true:=by simp;omega
       clear bz N hr Y ah;go_wp2_with (go_at_call 92;refine(aS _ _).mono ?_;rintro e E ⟨rfl,rfl⟩);go_ret2;exact⟨aI H,s,DK.refl _,Nat.le_add_right _ _,.inr ⟨HE,rfl,S.below H,_,_,rfl⟩⟩
     ·have HE:Hid (o=none):=show o=none from by rw [HO.out,letF_bad (gJ HX (nX (by rintro⟨a,b,e⟩;exact ag ⟨_,e⟩)))];rfl
      obtain⟨y,hy⟩:=hr.KR ag;clear hr ag;rcases hy with rfl | rfl | rfl
      ·exact zE1
      ·exact zE1
      ·exact zE1
    ·have cy:k=l.length:=by omega
     subst cy;rw [List.take_length] at HP af X;have ca:(w.alloc (A0 tb)).heap.size=w.heap.size+1:=by simp
     have bj:∀j,M j->j<w.heap.size+1:=fun j hj=>by have:=S.mlt j hj;omega
     have cz:wr.cell? ⟨g,F+1,none⟩=some (.iface T2 x2):=(H.cell (p:=⟨g,F+1,none⟩) hg).trans k1;have c0:wr.cell? ⟨w.heap.size,0,none⟩=some (Q0 tb):=aA ((bc.block w.heap.size x8).trans ch) 0;have al:wr.ownsRow (w.heap.size+1) PT 1 u8 l.length f:=by have:=W.G0;rwa [ca] at this
     have bk:wr.ownsRow (w.heap.size+1) PT 1 u9 l.length c:=by have:=W.I6;rwa [ca] at this
     have bl:Hid (wr.ownsRow (w.heap.size+1) PT 1 u9 l.length c):=bk;have cb:Hid (Stp M w M wr):=Stp.AA H;have bm:Hid (AN (fun k=>¬M k) (m+1) wr (.iface 166 u8) (.agg (l.map Pl.DC))):=XR bj (af.mono (fun _ _ h=>h.go cb)) (by simpa using al) (by simpa using an);have ar:Hid (AN (fun k=>¬M k) (m+1) wr (.iface T2 x2) G):=cj.go cb;obtain⟨ab,C,rfl,_⟩:=bC al;have U:c.length=l.length:=by have:=bk.1;omega
     have cc:f.length=l.length:=by have:=al.1;omega
     rw [cc] at bm ⊢;have da:Hid (BM M wr s tb mb ps):=S.below H;have db:Hid (AN (fun k=>¬M k) (m+1+1) (wr.alloc (.cells #[.iface 168 (.string ⟨#[108,97,109,98,100,97]⟩),.iface 166 (.slice ab l.length C),.iface T2 x2] PT (0,0))) (.iface 166 (.slice (some ⟨wr.heap.size,0,none⟩) 3 3)) (.agg [.lit (.string Pl.C3),.agg (l.map Pl.DC),G])):=rR da.mlt bm ar _ rfl;have HK:Hid (∀(wz:World)(am:Value),Below (wr.heap.size+1) (wr.alloc (.cells #[.iface 168 (.string ⟨#[108,97,109,98,100,97]⟩),.iface 166 (.slice ab l.length C),.iface T2 x2] PT (0,0))) wz->CD M wz am (.iface 166 (.slice (some ⟨wr.heap.size,0,none⟩) 3 3)::c)->Q2 99 #[.agg #[Q0 tb],am] wz fun e E=>∃v ev,e=.returned (.tuple #[v,ev])/\Hid (LM M w s tb mb ps o (BB (m+1) (.agg l)+BB (m+1) G) v ev E)):=fun wz am Q q =>zW m HF HL M w _ s tb mb ps l G bs _ c S (H.alloc x8 _) HA bq.2 bq.1 HP an db X HZ.1 o HO wz am (by simpa [Q3] using Q) q;have cd:∀u∈c,u.oneCell'=true:=fun u hu=>by obtain⟨T,x,rfl⟩:=X.iface u hu;rfl
     have ce:Hid (∀j,M j->j<w.heap.size+1):=bj;have q1:∀z:Obj,(wr.alloc z).cell? ⟨w.heap.size,0,none⟩=some (Q0 tb):=fun z=>((bB wr z).cell (p:=⟨w.heap.size,0,none⟩) zP6).trans c0;have q2:∀z L:Obj,((wr.alloc z).alloc L).cell? ⟨w.heap.size,0,none⟩=some (Q0 tb):=fun z L=>((bA wr z L).cell (p:=⟨w.heap.size,0,none⟩) zP6).trans c0;have q3:∀z:Obj,(wr.alloc z).cell? ⟨g,F+1,none⟩=some (.iface T2 x2):=fun z=>((bB wr z).cell (p:=⟨g,F+1,none⟩) (by show g<_;omega)).trans cz;clear hk br bm ar HP cc W al bk bj k0;by_cases hz:l.length=0
     ·have dc:l=[]:=e_ hz;subst dc;obtain rfl:c=[]:=e_ U;obtain⟨dv,dl,rfl,_⟩:=bC bl;have dd:Hid (∀o:Obj,CD M ((wr.alloc o).alloc (.cells #[.iface 166 (.slice (some ⟨wr.heap.size,0,none⟩) 3 3)] PT)).drew (.slice (some ⟨wr.heap.size+1,0,none⟩) 1 1) [.iface 166 (.slice (some ⟨wr.heap.size,0,none⟩) 3 3)]):=fun o=>by have:=qV (M:=M) (fun j hj=>by have:=ce.out j hj;omega) (qU (wr.alloc o) PT (base:=w.heap.size+1) r7 (.iface 166 (.slice (some ⟨wr.heap.size,0,none⟩) 3 3)));rw [show(wr.alloc o).heap.size=wr.heap.size+1 by simp] at this;exact Sl.AQ (Stp.AA r_.drew) this
      have bn:Hid (Q2 99 #[.agg #[Q0 tb],.slice (some ⟨wr.heap.size+1,0,none⟩) 1 1] ((wr.alloc (.cells #[.iface 168 (.string ⟨#[108,97,109,98,100,97]⟩),.iface 166 (.slice ab 0 C),.iface T2 x2] 160)).alloc (.cells #[.iface 166 (.slice (some ⟨wr.heap.size,0,none⟩) 3 3)] 160)).drew fun e E=>∃v ev,e=.returned (.tuple #[v,ev])/\Hid (LM M w s tb mb ps o (BB (m+1) (.agg [])+BB (m+1) G) v ev E)):=HK.out _ _ ((r_.alloc w9 _).drew) (dd _)
      go_upto_region 60 with fail
      go_region_law (first | (refine iC m6 _ _ 166 m6 160 i0 underlying166 ad ⟨wr.heap.size+1,0,none⟩ 1 1 n_ _ _ m6 m6 ?_) | (refine kO m6 99 _ _ _ m6 func99 t8 rfl _ _ m6 m6 bn ?_;rintro e w2 ⟨v,ev,rfl,W⟩;refine⟨_,rfl,?_⟩))
      all_goals
       go_wp2_with fail
       go_ret2;obtain⟨hg,t,Q,q,h3⟩:=W.out;rcases h3 with⟨r,a1,rfl,a3,a4⟩ | ⟨a1,a2,a3,es,rfl⟩
       ·exact⟨hg,t,Q,by rw [HZ.2];exact q,.inl ⟨r,_,a1,rfl,a3,a4⟩⟩
       ·exact⟨hg,t,Q,by rw [HZ.2];exact q,.inr ⟨a1,a2,a3,_,_,rfl⟩⟩
     ·obtain⟨g7,au,rfl,_,_⟩:=bl.form x8
      have de:Hid (∀(o:Obj)(u:Value),((wr.alloc o).alloc (.cells #[u] PT)).drew.ownsRow (wr.heap.size+1) PT 1 (.slice (some ⟨wr.heap.size+1,0,none⟩) 1 1) 1 [u]):=fun o u=>by
       have e:(wr.alloc o).heap.size=wr.heap.size+1:=by simp
       have:=qU (wr.alloc o) PT n_ u;rw [e] at this;exact this
      have df:Hid (∀z L:Obj,((wr.alloc z).alloc L).drew.ownsRow (w.heap.size+1) PT 1 (.slice (some ⟨g7,0,none⟩) l.length au) l.length c):=fun z L=>(bl.alloc z).alloc L;have dg:Hid (∀z L:Obj,Below (wr.heap.size+1) (wr.alloc z) ((wr.alloc z).alloc L).drew):=fun z L=>(r_.alloc w9 L).drew
      have bn:Hid (∀(w6:World)(g6 D:Nat),w6.ownsRow (wr.heap.size+1) PT 1 (.slice (some ⟨g6,0,none⟩) (1+l.length) D) (1+l.length) ([.iface 166 (.slice (some ⟨wr.heap.size,0,none⟩) 3 3)]++c)->((wr.alloc (.cells #[.iface 168 (.string ⟨#[108,97,109,98,100,97]⟩),.iface 166 (.slice ab l.length C),.iface T2 x2] 160)).alloc (.cells #[.iface 166 (.slice (some ⟨wr.heap.size,0,none⟩) 3 3)] 160)).drew.grownBy w6 (Value.ownBlock (.slice (some ⟨wr.heap.size+1,0,none⟩) 1 1)) ->
        Q2 99 #[.agg #[Q0 tb],.slice (some ⟨g6,0,none⟩) (1+l.length) D] w6 (fun e E=>∃v ev,e=.returned (.tuple #[v,ev])/\Hid (LM M w s tb mb ps o (BB (m+1) (.agg l)+BB (m+1) G) v ev E))/\w6.cell? ⟨w.heap.size,0,none⟩=some (Q0 tb)):=fun w6 g6 D Q q=>by
       have cf:Below (wr.heap.size+1) (wr.alloc (.cells #[.iface 168 (.string ⟨#[108,97,109,98,100,97]⟩),.iface 166 (.slice ab l.length C),.iface T2 x2] PT (0,0))) w6:=(dg _ _).grown q zO6 (fun j hj=>by simp [Value.ownBlock] at hj;omega);refine⟨HK w6 _ cf (qV (fun j hj=>by have:=ce.out j hj;omega) Q),?_⟩;exact(cf.cell (p:=⟨w.heap.size,0,none⟩) zP6).trans (q1 _)
      go_upto_region 60 with fail
      go_region_law (first | (refine step_append_lies _ m6 _ _ 166 m6 (wr.heap.size+1) 160 i0 .nilIface 1 16 underlying166 ad av aw ax rfl w8 (.slice (some ⟨wr.heap.size+1,0,none⟩) 1 1) 1 _ m6 (de _ _) ⟨g7,0,none⟩ l.length au c m6 x8 ((df _ _).cells rfl) cd x8 o6 x8 zO6 (wr.heap.size+1+1) (by show((wr.alloc _).alloc _).heap.size=_;simp) ?_;intro g6 D w6 ac K _ _;obtain⟨cg,c6⟩:=bn.out w6 g6 D ac K;have dh:Hid (Calls _ _ _ _ _):=cg;clear ac K cg) | (refine kO m6 99 _ _ _ m6 func99 t8 rfl _ _ m6 m6 dh ?_;rintro e w2 ⟨v,ev,rfl,W⟩;refine⟨_,rfl,?_⟩))
      all_goals
       go_wp2_with fail
       go_ret2;obtain⟨hg,t,Q,q,h3⟩:=W.out;rcases h3 with⟨r,a1,rfl,a3,a4⟩ | ⟨a1,a2,a3,es,rfl⟩
       ·exact⟨hg,t,Q,by rw [HZ.2];exact q,.inl ⟨r,_,a1,rfl,a3,a4⟩⟩
       ·exact⟨hg,t,Q,by rw [HZ.2];exact q,.inr ⟨a1,a2,a3,_,_,rfl⟩⟩
  ·have HE:Hid (o=none):=show o=none from by rw [HO.out,pD ae];rfl
   obtain⟨y,hy⟩:=r1.KR ae;clear r1 ae;rcases hy with rfl | rfl | rfl
   ·exact zE0
   ·exact zE0
   ·exact zE0
 ·have HE:Hid (o=none):=show o=none from by rw [ho,vY q];rfl
  obtain⟨ao,ci,rfl,_⟩:=Sl.C7 hS;have cx:((vs.length:Int)!=2)=true:=by simp;omega
  clear hA hF hL q U hS hR hB hz ho;go_enter func98,ntmps98;go_wp2_with (go_at_call 92;refine(aS _ _).mono ?_;rintro e E ⟨rfl,rfl⟩);go_ret2;exact⟨aI (bB w _),s,DK.refl _,Nat.le_add_right _ _,.inr ⟨HE,rfl,S.below (bB w _),_,_,rfl⟩⟩
theorem A5.more{ps:List (PV×PV)}{o:FR}{z':Nat}{e:Ending}(d:z<=z')(h:A5 M w s tb mb ps o z e w'):A5 M w s tb mb ps o z' e w':=by obtain⟨a,t,b,f,c⟩:=h;exact⟨a,t,b,x8,c⟩
theorem LM.post{ps:List (PV×PV)}{o:FR}{ev:Value}(h:LM M w s tb mb ps o z v ev w'):A5 M w s tb mb ps o z (.returned (.tuple #[v,ev])) w':=by
 obtain⟨c,t,d,e,⟨r,a,rfl,b⟩ | ⟨a,b,f,g,rfl⟩⟩:=h
 ·exact⟨c,t,d,e,.inl ⟨r,v,a,rfl,b⟩⟩
 ·exact⟨c,t,d,e,.inr ⟨a,b,f,v,g,rfl⟩⟩
theorem iA{wz:World}{ps:List (PV×PV)}{o:FR}{f:FuncId}{xs:Array Value}(c:Q3 w wz)(h:Q2 f xs wz fun e a=>A5 M wz s tb mb ps o z e a):Q2 f xs wz fun e a=>∃v b,e=.returned (.tuple #[v,b])/\Hid (LM M w s tb mb ps o z v b a) :=
 h.mono (fun e a h=>by
  obtain⟨v,b,d,g⟩:=h.one
  exact⟨v,b,d,g.from_ c⟩)
theorem nE(M:Q5)(w:World)(s:Sg)(tb mb:Nat)(ps:List (PV×PV))(sl u:Value)(us:List Value)(n:List Tr)(o:FR)(z:Nat)(j:CD M w sl (u::us))(k:Q2 60 #[sl] (w.alloc (A0 tb)) fun e a=>e=.returned (.string ⟨(eG n).toArray⟩)/\w.alloc (A0 tb)=a)(p:eG n=[113,117,111,116,101])
  (q:∀b,CD M (w.alloc (A0 tb)) b us->Q2 93 #[D2 tb,b] (w.alloc (A0 tb)) fun e a=>A5 M (w.alloc (A0 tb)) s tb mb ps o z e a) :
  Q2 75 #[D2 tb,sl] w fun e a=>A5 M w s tb mb ps o z e a:=by
 have d:CD M (w.alloc (A0 tb)) sl (u::us):=Sl.AQ (Stp.AA (bB w (A0 tb))) j;rw [p] at k;obtain⟨g,f,l,rfl,r,D,E,_⟩:=(Sl.C7 j).cell0;have x:=(show Hid (∀L c,L=us.length+1->c=l->Q2 60 #[.slice (some ⟨g,f,none⟩) L c] (w.alloc (A0 tb)) fun e a=>e=.returned (.string ⟨([113,117,111,116,101]:Q7).toArray⟩)/\w.alloc (A0 tb)=a) from by rintro _ _ rfl rfl;exact k)
 have t:Hid (∀(h:Option Addr)(c:Nat),us.length<=c->(us.length≠0->h=some ⟨g,f+1,none⟩)->Q2 93 #[.agg #[Q0 tb],.slice h us.length c] (w.alloc (A0 tb)) fun e a=>∃v i,e=.returned (.tuple #[v,i])/\Hid (LM M w s tb mb ps o z v i a)):=fun h c y A=>iA (bB w _) (q _ (Sl.J4 d us.length rfl h c y A));exact zD8
theorem lT(M:Q5)(w:World)(s:Sg)(tb mb:Nat)(ps:List (PV×PV))(sl u:Value)(us:List Value)(n:List Tr)(o:FR)(z:Nat)(j:CD M w sl (u::us))(k:Q2 60 #[sl] (w.alloc (A0 tb)) fun e a=>e=.returned (.string ⟨(eG n).toArray⟩)/\w.alloc (A0 tb)=a)(p:eG n=[105,102])
  (q:∀b,CD M (w.alloc (A0 tb)) b us->Q2 94 #[D2 tb,b] (w.alloc (A0 tb)) fun e a=>A5 M (w.alloc (A0 tb)) s tb mb ps o z e a) :
  Q2 75 #[D2 tb,sl] w fun e a=>A5 M w s tb mb ps o z e a:=by
 have d:CD M (w.alloc (A0 tb)) sl (u::us):=Sl.AQ (Stp.AA (bB w (A0 tb))) j;rw [p] at k;obtain⟨g,f,l,rfl,r,D,E,_⟩:=(Sl.C7 j).cell0;have x:=(show Hid (∀L c,L=us.length+1->c=l->Q2 60 #[.slice (some ⟨g,f,none⟩) L c] (w.alloc (A0 tb)) fun e a=>e=.returned (.string ⟨([105,102]:Q7).toArray⟩)/\w.alloc (A0 tb)=a) from by rintro _ _ rfl rfl;exact k)
 have t:Hid (∀(h:Option Addr)(c:Nat),us.length<=c->(us.length≠0->h=some ⟨g,f+1,none⟩)->Q2 94 #[.agg #[Q0 tb],.slice h us.length c] (w.alloc (A0 tb)) fun e a=>∃v i,e=.returned (.tuple #[v,i])/\Hid (LM M w s tb mb ps o z v i a)):=fun h c y A=>iA (bB w _) (q _ (Sl.J4 d us.length rfl h c y A));exact zD8
theorem nF(M:Q5)(w:World)(s:Sg)(tb mb:Nat)(ps:List (PV×PV))(sl u:Value)(us:List Value)(n:List Tr)(o:FR)(z:Nat)(j:CD M w sl (u::us))(k:Q2 60 #[sl] (w.alloc (A0 tb)) fun e a=>e=.returned (.string ⟨(eG n).toArray⟩)/\w.alloc (A0 tb)=a)(p:eG n=[98,101,103,105,110])
  (q:∀b,CD M (w.alloc (A0 tb)) b us->Q2 95 #[D2 tb,b] (w.alloc (A0 tb)) fun e a=>A5 M (w.alloc (A0 tb)) s tb mb ps o z e a) :
  Q2 75 #[D2 tb,sl] w fun e a=>A5 M w s tb mb ps o z e a:=by
 have d:CD M (w.alloc (A0 tb)) sl (u::us):=Sl.AQ (Stp.AA (bB w (A0 tb))) j;rw [p] at k;obtain⟨g,f,l,rfl,r,D,E,_⟩:=(Sl.C7 j).cell0;have x:=(show Hid (∀L c,L=us.length+1->c=l->Q2 60 #[.slice (some ⟨g,f,none⟩) L c] (w.alloc (A0 tb)) fun e a=>e=.returned (.string ⟨([98,101,103,105,110]:Q7).toArray⟩)/\w.alloc (A0 tb)=a) from by rintro _ _ rfl rfl;exact k)
 have t:Hid (∀(h:Option Addr)(c:Nat),us.length<=c->(us.length≠0->h=some ⟨g,f+1,none⟩)->Q2 95 #[.agg #[Q0 tb],.slice h us.length c] (w.alloc (A0 tb)) fun e a=>∃v i,e=.returned (.tuple #[v,i])/\Hid (LM M w s tb mb ps o z v i a)):=fun h c y A=>iA (bB w _) (q _ (Sl.J4 d us.length rfl h c y A));exact zD8
theorem sF(M:Q5)(w:World)(s:Sg)(tb mb:Nat)(ps:List (PV×PV))(sl u:Value)(us:List Value)(n:List Tr)(o:FR)(z:Nat)(j:CD M w sl (u::us))(k:Q2 60 #[sl] (w.alloc (A0 tb)) fun e a=>e=.returned (.string ⟨(eG n).toArray⟩)/\w.alloc (A0 tb)=a)(p:eG n=[115,101,116,33])
  (q:∀b,CD M (w.alloc (A0 tb)) b us->Q2 96 #[D2 tb,b] (w.alloc (A0 tb)) fun e a=>A5 M (w.alloc (A0 tb)) s tb mb ps o z e a) :
  Q2 75 #[D2 tb,sl] w fun e a=>A5 M w s tb mb ps o z e a:=by
 have d:CD M (w.alloc (A0 tb)) sl (u::us):=Sl.AQ (Stp.AA (bB w (A0 tb))) j;rw [p] at k;obtain⟨g,f,l,rfl,r,D,E,_⟩:=(Sl.C7 j).cell0;have x:=(show Hid (∀L c,L=us.length+1->c=l->Q2 60 #[.slice (some ⟨g,f,none⟩) L c] (w.alloc (A0 tb)) fun e a=>e=.returned (.string ⟨([115,101,116,33]:Q7).toArray⟩)/\w.alloc (A0 tb)=a) from by rintro _ _ rfl rfl;exact k)
 have t:Hid (∀(h:Option Addr)(c:Nat),us.length<=c->(us.length≠0->h=some ⟨g,f+1,none⟩)->Q2 96 #[.agg #[Q0 tb],.slice h us.length c] (w.alloc (A0 tb)) fun e a=>∃v i,e=.returned (.tuple #[v,i])/\Hid (LM M w s tb mb ps o z v i a)):=fun h c y A=>iA (bB w _) (q _ (Sl.J4 d us.length rfl h c y A));exact zD8
theorem fZ(M:Q5)(w:World)(s:Sg)(tb mb:Nat)(ps:List (PV×PV))(sl u:Value)(us:List Value)(n:List Tr)(o:FR)(z:Nat)(j:CD M w sl (u::us))(k:Q2 60 #[sl] (w.alloc (A0 tb)) fun e a=>e=.returned (.string ⟨(eG n).toArray⟩)/\w.alloc (A0 tb)=a)(p:eG n=[108,97,109,98,100,97])
  (q:∀b,CD M (w.alloc (A0 tb)) b us->Q2 97 #[D2 tb,b] (w.alloc (A0 tb)) fun e a=>A5 M (w.alloc (A0 tb)) s tb mb ps o z e a) :
  Q2 75 #[D2 tb,sl] w fun e a=>A5 M w s tb mb ps o z e a:=by
 have d:CD M (w.alloc (A0 tb)) sl (u::us):=Sl.AQ (Stp.AA (bB w (A0 tb))) j;rw [p] at k;obtain⟨g,f,l,rfl,r,D,E,_⟩:=(Sl.C7 j).cell0;have x:=(show Hid (∀L c,L=us.length+1->c=l->Q2 60 #[.slice (some ⟨g,f,none⟩) L c] (w.alloc (A0 tb)) fun e a=>e=.returned (.string ⟨([108,97,109,98,100,97]:Q7).toArray⟩)/\w.alloc (A0 tb)=a) from by rintro _ _ rfl rfl;exact k)
 have t:Hid (∀(h:Option Addr)(c:Nat),us.length<=c->(us.length≠0->h=some ⟨g,f+1,none⟩)->Q2 97 #[.agg #[Q0 tb],.slice h us.length c] (w.alloc (A0 tb)) fun e a=>∃v i,e=.returned (.tuple #[v,i])/\Hid (LM M w s tb mb ps o z v i a)):=fun h c y A=>iA (bB w _) (q _ (Sl.J4 d us.length rfl h c y A));exact zD8
theorem sH(M:Q5)(w:World)(s:Sg)(tb mb:Nat)(ps:List (PV×PV))(sl u:Value)(us:List Value)(n:List Tr)(o:FR)(z:Nat)(j:CD M w sl (u::us))(k:Q2 60 #[sl] (w.alloc (A0 tb)) fun e a=>e=.returned (.string ⟨(eG n).toArray⟩)/\w.alloc (A0 tb)=a)(p:eG n=[108,101,116])
  (q:∀b,CD M (w.alloc (A0 tb)) b us->Q2 98 #[D2 tb,b] (w.alloc (A0 tb)) fun e a=>A5 M (w.alloc (A0 tb)) s tb mb ps o z e a) :
  Q2 75 #[D2 tb,sl] w fun e a=>A5 M w s tb mb ps o z e a:=by
 have d:CD M (w.alloc (A0 tb)) sl (u::us):=Sl.AQ (Stp.AA (bB w (A0 tb))) j;rw [p] at k;obtain⟨g,f,l,rfl,r,D,E,_⟩:=(Sl.C7 j).cell0;have x:=(show Hid (∀L c,L=us.length+1->c=l->Q2 60 #[.slice (some ⟨g,f,none⟩) L c] (w.alloc (A0 tb)) fun e a=>e=.returned (.string ⟨([108,101,116]:Q7).toArray⟩)/\w.alloc (A0 tb)=a) from by rintro _ _ rfl rfl;exact k)
 have t:Hid (∀(h:Option Addr)(c:Nat),us.length<=c->(us.length≠0->h=some ⟨g,f+1,none⟩)->Q2 98 #[.agg #[Q0 tb],.slice h us.length c] (w.alloc (A0 tb)) fun e a=>∃v i,e=.returned (.tuple #[v,i])/\Hid (LM M w s tb mb ps o z v i a)):=fun h c y A=>iA (bB w _) (q _ (Sl.J4 d us.length rfl h c y A));exact zD8
end
end Go.Proofs.YtbgghmjmcapmlaaGreatDoor
