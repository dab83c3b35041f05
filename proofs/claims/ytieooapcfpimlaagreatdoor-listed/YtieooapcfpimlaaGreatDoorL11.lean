import Derived.Test.YtieooapcfpimlaaGreatDoorL10
namespace Go.Proofs.YtieooapcfpimlaaGreatDoor
set_option maxHeartbeats 4000000
set_option maxRecDepth 100000
open Go.Proofs.Tryz
open Pl (PV PF FR AE AD BB BN EE EF isName)
section
open Go.RowKit
variable {ks:List Nat} {k:Nat} {w:World}
theorem Tryz.infoNm:(prog.info? 148).map (fun i=>(i.zero,i.size,i.bytes))=some (some (.agg #[.string ByteArray.empty,.int .i64 0]),2,24):=by kernel_rfl
theorem nQ{nm:List AE}{i:Nat}{t:AE}(b:nm[i]?=some t)(c:ks[i]?=some k):(nmRow nm ks)[i*2]?=some (.string ⟨t.toArray⟩)/\(nmRow nm ks)[i*2+1]?=some (.int .i64 (k:Int)):=by
 have a:(List.zip nm ks)[i]?=some (t,k):=by rw [List.getElem?_zip_eq_some];exact⟨b,c⟩
 exact⟨by rw [show i*2=i*2+0 from rfl];exact aX (fun p:AE×Nat=>gU p.1 p.2) 2 (fun _=>rfl) _ i 0 _ a (by decide),aX (fun p:AE×Nat=>gU p.1 p.2) 2 (fun _=>rfl) _ i 1 _ a (by decide)⟩
theorem sU{nm:List AE}(h:ks.length=nm.length)(t:AE)(k:Nat):nmRow (nm++[t]) (ks++[k])=nmRow nm ks++gU t k:=by unfold nmRow;rw [List.zip_append h.symm];simp
theorem iJ{base:Nat}{v:Value}{nm:List AE}(h:w.ownsRow base B6 2 v k (nmRow nm ks))(o:nm.length=k) :∃d a,v=.slice d k a/\k<=a/\∀(i:Nat)(t:AE)(n:Nat),nm[i]?=some t->ks[i]?=some n->∃g,d=some ⟨g,0,none⟩/\g<w.heap.size/\w.cell? ⟨g,i*2,none⟩=some (.string ⟨t.toArray⟩)/\w.cell? ⟨g,i*2+1,none⟩=some (.int .i64 (n:Int)):=by
 rcases h.2 with⟨b,f⟩ | ⟨g,a,j,b,_,l,m,_⟩
 ·refine⟨none,0,by rw [f];exact b,by omega,fun i t n c=>?_⟩;have:=(s_ c).1;omega
 ·refine⟨some ⟨g,0,none⟩,a,b,m,fun i t n c e=>⟨g,rfl,aB l,?_,?_⟩⟩
  ·have:=h.cells (g:=g) (by rw [b];rfl) (i*2) _ (nQ c e).1
   rwa [Addr.add_lit,Nat.zero_add] at this
  ·have:=h.cells (g:=g) (by rw [b];rfl) (i*2+1) _ (nQ c e).2
   rwa [Addr.add_lit,Nat.zero_add] at this
theorem XY{α:Type}{l:List α}(h:l.Nodup){i j:Nat}{x:α}(hi:l[i]?=some x)(c:l[j]?=some x):i=j:=by obtain⟨a,d⟩:=s_ hi;obtain⟨b,e⟩:=s_ c;exact(List.getElem_inj (h₀:=a) (h₁:=b) h).1 (d.trans e.symm)
theorem XN(ns:List AE)(s:ns.Nodup)(w:World)(base k:Nat)(sl:Value)(nm:List AE)(A:List Nat)(t:AE)(h:Nat)(I:w.ownsRow base B6 2 sl k (nmRow nm A))(J:BY (fun k t=>ns[k]?=some t) A nm)(l:nm.length=k)(K:ns[h]?=some t)(X:k<=1000) :Calls prog 109 #[sl,.agg #[.string ⟨t.toArray⟩,.int .i64 (h:Int)]] w fun e P=>Below w.heap.size w P/\∃r:Int,e=.returned (.int .i64 r)/\((t∈nm/\0<=r)\/(t∉nm/\r=-1)):=by
 obtain⟨Y,Q,rfl,L,b⟩:=iJ I l;have R:=h_ b;have c:=h_ l;have D:=h_ J;have M:=h_ K;have E:Hid ns.Nodup:=s;clear b I J l K s;go_enter func109,ntmps109;go_wp2_with fail
 go_loopw [8] (fun F S=>∃(j:Nat),j<=k/\F=.int .i64 j/\Hid (Below (w.heap.size+1) (w.alloc (.cells #[.string ⟨t.toArray⟩,.int .i64 (h:Int)] B6)) S)/\Hid (∀(i:Nat)(y:AE),i<j->nm[i]?=some y->¬y=t)) (fun F _=>k-(intOf F).toNat)
 case atStart=>exact⟨0,Nat.zero_le _,rfl,r_,fun i y B=>by omega⟩
 case round =>
  obtain⟨j,Z,rfl,u,N⟩:=hrel;have d:Hid (Below w.heap.size w wr):=show Below _ _ _ from(bB w _).trans (u.mono (by omega));have b0:wr.cell? ⟨w.heap.size,0,none⟩=some (.string ⟨t.toArray⟩):=by have:=(u.block w.heap.size (by omega)).trans (heap_alloc_new w (.cells #[.string ⟨t.toArray⟩,.int .i64 (h:Int)] B6));exact aA this 0
  have b1:wr.cell? ⟨w.heap.size,1,none⟩=some (.int .i64 (h:Int)):=by have:=(u.block w.heap.size (by omega)).trans (heap_alloc_new w (.cells #[.string ⟨t.toArray⟩,.int .i64 (h:Int)] B6));exact aA this 1
  by_cases T:j<k
  ·obtain⟨y,q⟩:∃y,nm[j]?=some y:=⟨nm[j]'(by have:=c.out;omega),g_ (by have:=c.out;omega)⟩
   obtain⟨v,f⟩:∃y,A[j]?=some y:=⟨A[j]'(by have:=c.out;have:=D.1;omega),g_ (by have:=c.out;have:=D.1;omega)⟩
   obtain⟨C,rfl,x,m,n⟩:=R.out j y v q f;have U:wr.cell? ⟨C,j*2,none⟩=some (.string ⟨y.toArray⟩):=(d.cell (p:=⟨C,j*2,none⟩) x).trans m;have V:wr.cell? ⟨C,j*2+1,none⟩=some (.int .i64 (v:Int)):=(d.cell (p:=⟨C,j*2+1,none⟩) x).trans n;have O:(j:Int)<(k:Int):=by omega
   have g:=D.2 j v y f q;by_cases a:t=y
   ·have o:Hid (t∈nm):=show t∈nm from by rw [a];exact q_ q
    subst a;obtain rfl:=XY E M g;clear q f g m n;go_wp2_with fail
    go_quiet (fail)
    go_wp2_with fail
    go_ret;exact⟨d.trans ((U2 wr nq).mono d.size),_,rfl,.inl ⟨o,by omega⟩⟩
   ·have G:Hid (∀(i:Nat)(z:AE),i<j+1->nm[i]?=some z->¬z=t):=by
     intro i z B H;by_cases e:i=j
     ·subst e;rw [q] at H;obtain rfl:=i_ H;exact fun e=>a e.symm
     ·exact N.out i z (by omega) H
    have e1:(t==y)=false:=by simpa using a
    have e2:((h:Int)==(v:Int))=false:=by
     rw [beq_eq_false_iff_ne];intro e;have e:h=v:=by omega
     subst e;have:=M.symm.trans g;exact a (i_ this)
    clear q f g m n a;go_wp2_with fail
    go_quiet (fail)
    go_wp2_with fail
    go_roundw
    case rel=>exact⟨j+1,by omega,by go_num,u.trans ((U2 wr nq).mono (by have:=u.size;simpa using this)),G⟩
    case measure=>simp [intOf];omega
  ·have o:Hid (t∉nm):=show t∉nm from fun W=>by
    obtain⟨i,B⟩:=List.mem_iff_getElem?.1 W;exact N.out i t (by have:=(s_ B).1;have:=c.out;omega) B rfl
   go_wp2_with fail
   go_ret;exact⟨d,_,rfl,.inr ⟨o,rfl⟩⟩
theorem sK(ns:List AE)(b:ns.Nodup)(w:World)(base k:Nat)(sl:Value)(nm:List AE)(g:List Nat)(t:AE)(h:Nat)(i:w.ownsRow base B6 2 sl k (nmRow nm g))(m:BY (fun k t=>ns[k]?=some t) g nm)(a:nm.length=k)(n:ns[h]?=some t)(q:k<=1000) :Calls prog 102 #[sl,.agg #[.string ⟨t.toArray⟩,.int .i64 (h:Int)]] w fun e d=>Below w.heap.size w d/\e=.returned (.bool (decide (t∈nm))):=by
 have s:Hid (∀o:Obj,_):=fun o=>XN ns b (w.alloc o) base k sl nm g t h (i.alloc o) m a n q;obtain⟨v,u,rfl,p,_⟩:=iJ i a;clear i m a n b;go_enter func102,ntmps102;go_wp2_with fail;refine Calls.mono (s _) ?_;rintro e d ⟨f,r,rfl,⟨c,x⟩ | ⟨c,rfl⟩⟩
 ·have j:Hid (decide (t∈nm)=true):=by simpa [Hid] using c
  have l:Hid (Below w.heap.size w d):=(bB w _).trans (f.mono (bB w _).size);clear c f;go_wp2_with fail;go_ret;exact⟨l,by rw [j.out];rfl⟩
 ·have j:Hid (decide (t∈nm)=false):=by simpa [Hid] using c
  have l:Hid (Below w.heap.size w d):=(bB w _).trans (f.mono (bB w _).size);clear c f;go_wp2_with fail;go_ret;exact⟨l,by rw [j.out];rfl⟩
def eJ:Tr->Bool
 | .agg l=>Pl.CJ l
 | _=>false
def P8(M:Nat->Prop)(w:World)(s:Sg)(tb mb:Nat)(ps:List (PV×PV))(t:Tr)(z:Nat)(v ev:Value)(w':World):Prop :=
 w.grownBy w' (some mb)/\∃t',DK s t'/\t'.pb=s.pb/\t'.ns.length<=s.ns.length+z/\BM M w' t' tb mb ps /\
  ((∃l,t=.agg l/\Pl.CJ l=true/\ev=.nilIface/\EI M w' t' v (l.map Pl.strOf))\/(eJ t=false/\∃es,ev=aY es 5))
structure KC(w wr:World)(s t:Sg)(tb mb:Nat)(l:List Tr)(zs:List Nat)(k:Nat)(rv:Value)(nm:List AE)(ks:List Nat):Prop where
 row:wr.ownsRow w.heap.size B6 2 rv k (nmRow nm ks)
 all:BY (fun k x=>t.ns[k]?=some x) ks nm
 nl:nm.length=k
 gm:w.grownBy wr (some mb)
 B3:IW wr tb mb t.ns
 sg:DK s t
 pb:t.pb=s.pb
 zl:t.ns.length<=s.ns.length+(zs.take k).sum
 seen:Seen l k nm
theorem KC.start{M:Nat->Prop}{s:Sg}{tb mb:Nat}{ps:List (PV×PV)}(h:BM M w s tb mb ps)(l:List Tr)(a:List Nat):KC w w s s tb mb l a 0 (.slice none 0 0) [] [] :=⟨World.ownsRow_nil _ _ _ _,BY.nil _,rfl,aI r_,h.B3,DK.refl s,rfl,by simp,Seen.start l⟩
theorem KC.push{wr w2 w4 w5:World}{s t:Sg}{tb mb:Nat}{l:List Tr}{zs:List Nat}{z:Nat}{rv:Value}{nm:List AE}{y:AE}{o:Obj}{g' cap':Nat}
  (h:KC w wr s t tb mb l zs k rv nm ks) (m:mb<w.heap.size) (n:tb<w.heap.size) (p:l[k]?=some (.lit (.string y))) (q:EE y=false) (B:y∉nm) (C:zs[k]?=some z) (r:z=1)
  (a:wr.grownBy w2 (some mb)) (u:IW w2 tb mb (t.named y).ns) (b:Below w2.heap.size w2 w4)
  (f:w5.ownsRow w.heap.size B6 2 (.slice (some ⟨g',0,none⟩) (k+1) cap') (k+1) (nmRow nm ks++[.string ⟨y.toArray⟩,.int .i64 ((t.ns.idxOf y:Nat):Int)])) (g:(w4.alloc o).grownBy w5 rv.ownBlock) :
  KC w w5 s (t.named y) tb mb l zs (k+1) (.slice (some ⟨g',0,none⟩) (k+1) cap') (nm++[y]) (ks++[t.ns.idxOf y]):=by
 have v:∀j,rv.ownBlock=some j->w.heap.size<=j:=fun j i=>(h.row.lt j i).1;have c:Below w4.heap.size w4 (w4.alloc o):=bB w4 o;have D:=h.gm.size;have E:=a.size;have F:=b.size;have G:=c.size;have d:∀j,j<w.heap.size->w5.heap[j]?=w2.heap[j]? := fun j i=>by rw [g.block j (by omega) (fun e=>by have:=v j e.symm;omega),c.block j (by omega),b.block j (by omega)]
 refine⟨by rw [sU h.all.1];exact f,(h.all.mono (fun k x p=>bS (t.E5 y).le.ns p)).snoc (internL_get t.ns y),by simp [h.nl],?_,u.keep (d tb n) (d mb m),h.sg.trans (t.E5 y),h.pb,?_,?_⟩
 ·refine⟨g.os.trans (c.os.trans (b.os.trans (a.os.trans h.gm.os))),g.tape.trans (c.tape.trans (b.tape.trans (a.tape.trans h.gm.tape))),g.output.trans (c.output.trans (b.output.trans (a.output.trans h.gm.output))),by have:=g.size;omega,fun j i A=>?_⟩;rw [d j i,a.block j (by omega) A,h.gm.block j i A]
 ·rw [Pl.F4 zs k z C,r];have:=h.zl;have:=dE t.ns y;simp only [Sg.named];omega
 ·exact h.seen.more p (by simp [isName,q]) B
theorem XK(n:Nat)(M:Nat->Prop)(w:World)(s:Sg)(tb mb:Nat)(ps:List (PV×PV))(v:Value)(t:Tr)(hR:BM M w s tb mb ps)(h:AN (fun k=>¬M k) n w v t)(hB:cL n t)(hz:s.ns.length+BB n t<=BS) :Calls prog 93 #[D2 tb,v] w fun e Q=>∃v2 ev,e=.returned (.tuple #[v2,ev])/\P8 M w s tb mb ps t (BB n t) v2 ev Q:=by
 obtain⟨i0,am,an,ap,aq⟩:=info_parts Tryz.infoNm;have bi:=Tryz.EO;have bj:=Tryz.E7;have bk:=Tryz.FN;have bl:=Tryz.ET;have HR:Hid (BM M w s tb mb ps):=hR;unfold D2;by_cases I:∃ts,t=.agg ts
 ·obtain⟨l,rfl⟩:=I
  obtain⟨m,rfl⟩:∃m,n=m+1:=by
   cases n with
   | zero=>exact h.elim
   | succ m=>exact⟨m,rfl⟩
  obtain⟨sl,vs,rfl,hS,hA,bf⟩:=h.RQ;have HS:Hid (CD M w sl vs):=hS;have HA:Hid (C9 M m w vs l):=hA;have HZ:Hid (s.ns.length+(l.map (BB m)).sum<=BS):=hz;have ar:Hid (∀x∈l,cL m x):=hB;have E:Hid (Below w.heap.size w (w.alloc (A0 tb))):=bB w _;have p:Hid (BM M (w.alloc (A0 tb)) s tb mb ps):=hR.below E;have au:Hid ((w.alloc (A0 tb)).heap[w.heap.size]?=some (A0 tb)):=heap_alloc_new _ _;have aa:Hid (mb<w.heap.size):=hR.B3.lt.2;have R:=hA.1;obtain⟨_,ao,ab,rfl,ac,_⟩:=hS;have HV:Hid (vs.length=l.length):=R;rw [R] at ac ⊢;clear hA hz hB hR h R;go_enter func93,ntmps93;go_wp2_with fail
  go_loopw [8,23] (fun lv i wr=>∃(k:Nat)(t:Sg)(d:List AE)(H:List Nat),k<=l.length/\i=.int .i64 k/\Hid (KC (w.alloc (A0 tb)) wr s t tb mb l (l.map (BB m)) k lv d H)) (fun _ i _=>l.length-(intOf i).toNat)
  case atStart=>exact⟨0,s,[],[],Nat.zero_le _,rfl,KC.start p _ _⟩
  case round =>
   obtain⟨k,t,d,H,hk,rfl,a⟩:=hrel;by_cases ad:k<l.length
   ·obtain⟨u,P⟩:∃u,vs[k]?=some u:=⟨vs[k]'(by have:=HV.out;omega),g_ (by have:=HV.out;omega)⟩
    obtain⟨x,C⟩:∃x,l[k]?=some x:=⟨l[k],g_ ad⟩
    have ae:w.grownBy wr (some mb):=aM (aI E) a.gm;have av:=(Sl.AQ (eL ae HR.FV) HS).C7;obtain⟨bm,c,e',_,af⟩:=av;simp only [Value.slice.injEq] at e';obtain⟨rfl,_,rfl⟩:=e';obtain⟨g,bn,rfl,hg,hc⟩:=af k u P;have c0:wr.cell? ⟨w.heap.size,0,none⟩=some (.pointer (some ⟨tb,0,none⟩)):=by have:=(a.gm.block w.heap.size (by simp) (by have:=aa.out;simp;omega)).trans au;exact aA this 0
    have hr:=HA.2 k u x P C;have aw:Hid (AN (fun k=>¬M k) m w u x):=hr;obtain⟨T,y0,rfl,ag⟩:=hr.iface;have HX:Hid (l[k]?=some x):=C;have ax:Hid (BM M wr t tb mb ps):=p.I8 a.gm a.B3 a.sg a.pb
    have J:Hid (∀y,x=.lit (.string y)->y.length<=1000/\t.ns.length+1<=BS/\BB m x=1):=fun y hy=>by
     subst hy;have S:(l.map (BB m))[k]?=some (BB m (.lit (.string y))):=by rw [List.getElem?_map,C];rfl
     have Y:=Pl.F4 _ k _ S;have Z:=Pl.DH (l.map (BB m)) (k+1);have h3:=a.zl;have h4:=HZ.out;have h5:=ar.out _ (q_ C)
     cases m with
     | zero=>exact hr.elim
     | succ m =>rw [show BB (m+1) (.lit (.string y))=1 from rfl] at Y;exact⟨t_ (show y.length<=300 from h5) (by decide),by omega,rfl⟩
    have bg:(k:Int)<(l.length:Int):=by omega
    clear af P C hr ag ad ae;go_wp2_with fail;refine(qP _ m w M wr t tb mb ps _ x aw ax (fun y hy=>⟨(J y hy).1,(J y hy).2.1⟩)).mono ?_;rintro e b ⟨q,⟨y,rfl,ah,rfl,r⟩ | ⟨ai,r,es,rfl⟩⟩
    ·have ay:w.heap.size+1<=b.heap.size:=by have Y:=a.gm.size;have Z:=q.size;simp at Y;omega
     have K:Hid (wr.grownBy b (some mb)):=q;have z:Hid (BM M b (t.named y) tb mb ps):=r;have az:Hid (EE y=false):=ah
     have U:Hid (b.ownsRow (w.alloc (A0 tb)).heap.size B6 2 u8 k (nmRow d H)):=a.row.kept q (.inr (fun e=>by
      have:=(a.row.lt mb e).1;have:=aa.out;simp at *
      omega))
     have ba:Hid ((t.named y).ns.Nodup):=by obtain⟨D,_,hD⟩:=r.B3.map;exact hD.nodup
     have bb:Hid (BY (fun k x=>(t.named y).ns[k]?=some x) H d):=a.all.mono (fun k x C=>bS (t.E5 y).le.ns C);have aj:Hid (∀o:Obj,Calls prog 102 #[u8,.agg #[.string ⟨y.toArray⟩,.int .i64 ((t.ns.idxOf y:Nat):Int)]] (b.alloc o) fun e Q=>Below (b.alloc o).heap.size (b.alloc o) Q/\e=.returned (.bool (decide (y∈d)))):=fun o =>sK _ ba (b.alloc o) _ k u8 d H y _ (U.alloc o) bb a.nl (internL_get t.ns y) (by omega);obtain⟨L,f,rfl,V,_⟩:=iJ U a.nl;clear q r ah c0 hc;by_cases hm:y∈d
     ·have N:Hid (eJ (.agg l)=false):=by
       obtain⟨j,hj⟩:=List.mem_iff_getElem?.1 hm;exact a.seen.ZY HX hj rfl
      have HT:Hid ((t.named y).ns.length<=s.ns.length+(l.map (BB m)).sum):=show _<=_ from by
       have S:(l.map (BB m))[k]?=some (BB m (.lit (.string y))):=by rw [List.getElem?_map,HX.out];rfl
       have Y:=Pl.F4 _ k _ S;have Z:=Pl.DH (l.map (BB m)) (k+1);have h3:=a.zl;have h4:=(J y rfl).2.2;have h5:=dE t.ns y;simp only [Sg.named];omega
      have hd:decide (y∈d)=true:=by simpa using hm
      clear hm;go_wp2_with fail;refine Calls.mono (aj _) ?_;rintro e F ⟨A,rfl⟩;have B:Hid (Below b.heap.size b F):=(bB b _).trans (A.mono (bB b _).size);clear A;go_wp2_with (go_at_call 71;refine(aS _ _).mono ?_;rintro e Q ⟨rfl,rfl⟩);go_ret2;exact⟨_,_,rfl,aM (aM (aI E) a.gm) (aM K (aI B)),t.named y,a.sg.trans (t.E5 y),a.pb,HT,z.below B,.inr ⟨N,_,rfl⟩⟩
     ·have HM:Hid (y∉d):=hm;have hd:decide (y∈d)=false:=by simpa using hm
      clear hm;go_wp2_with fail;refine Calls.mono (aj _) ?_;rintro e F ⟨A,rfl⟩;have W:=(A.block b.heap.size (by simp)).trans (heap_alloc_new b _);have z0:F.cell? ⟨b.heap.size,0,none⟩=some (.string ⟨y.toArray⟩):=aA W 0;have z1:F.cell? ⟨b.heap.size,1,none⟩=some (.int .i64 ((t.ns.idxOf y:Nat):Int)):=aA W 1;have B:Hid (Below b.heap.size b F):=(bB b _).trans (A.mono (bB b _).size)
      have bc:Hid (F.ownsRow (w.heap.size+1) B6 2 (.slice L k f) k (nmRow d H)):=show World.ownsRow _ _ _ _ _ _ _ from by
       have:=U.kept (aQ none B) (by cases hv:Value.ownBlock (.slice L k f)<;>simp)
       rwa [show(w.alloc (A0 tb)).heap.size=w.heap.size+1 from by simp] at this
      have bh:w.heap.size+1<=F.heap.size:=t_ ay B.size;have HP:Hid (∀(w5:World)(o:Obj)(g' c:Nat),w5.ownsRow (w.heap.size+1) B6 2 (.slice (some ⟨g',0,none⟩) (k+1) c) (k+1) (nmRow d H++[.string ⟨y.toArray⟩,.int .i64 ((t.ns.idxOf y:Nat):Int)])->(F.alloc o).grownBy w5 (Value.ownBlock (.slice L k f))->KC (w.alloc (A0 tb)) w5 s (t.named y) tb mb l (l.map (BB m)) (k+1) (.slice (some ⟨g',0,none⟩) (k+1) c) (d++[y]) (H++[t.ns.idxOf y])):=fun w5 o g' c Y Z =>a.push p.B3.lt.2 p.B3.lt.1 HX az HM (by rw [List.getElem?_map,HX.out];rfl) (J y rfl).2.2 K z.B3 B (by rw [show(w.alloc (A0 tb)).heap.size=w.heap.size+1 from by simp];exact Y) Z;clear A W;go_wp2_with (first | (at_builtin;refine wpList_append_lies _ rfl _ _ 206 rfl (w.heap.size+1) 148 i0 (.agg #[.string ByteArray.empty,.int .i64 0]) 2 24 underlying206 am an ap aq rfl (by decide) _ k (nmRow d H) rfl (bc.alloc _) ⟨F.heap.size,0,none⟩ 1 1 [.string ⟨y.toArray⟩,.int .i64 ((t.ns.idxOf y:Nat):Int)] rfl rfl (rH F (.string ⟨y.toArray⟩) (.int .i64 ((t.ns.idxOf y:Nat):Int)) 148) (fun x C=>by simp at C;rcases C with rfl | rfl<;>rfl) (by decide) (by unfold maxLen;omega) (by omega) (by simp;omega) (F.heap.size+1) (by simp) ?_;intro g' c w5 X O _ _))
      go_roundw
      case rel=>exact⟨k+1,_,_,_,by omega,by go_num,HP w5 _ g' c X O⟩
      case measure=>simp [intOf];omega
    ·have N:Hid (eJ (.agg l)=false):=Seen.bad HX ai;have K:Hid (wr.grownBy b (some mb)):=q;have z:Hid (BM M b t tb mb ps):=r;have HT:Hid (t.ns.length<=s.ns.length+(l.map (BB m)).sum):=show _<=_ from by have Z:=Pl.DH (l.map (BB m)) k;have h3:=a.zl;omega
     clear ai q r c0 hc;unfold aY;go_wp2_with fail;go_ret2;exact⟨_,_,rfl,aM (aM (aI E) a.gm) (aM K (aI (bB b _))),t,a.sg,a.pb,HT,z.below (bB b _),.inr ⟨N,es,rfl⟩⟩
   ·have N:Hid (Pl.CJ l=true):=a.seen.done (by omega);have ak:k=l.length:=by omega
    have z:Hid (BM M wr t tb mb ps):=p.I8 a.gm a.B3 a.sg a.pb;have G:d=l.map Pl.strOf:=by have:=a.seen.1;rw [ak,List.take_length] at this;exact this
    have bd:Hid (EI M wr t u8 (l.map Pl.strOf)):=show EI _ _ _ _ _ from by
     rw [<- G];refine⟨⟨H,a.all,?_⟩,a.seen.2.2,by rw [a.nl];omega⟩;rw [a.nl];refine⟨a.row.1,?_⟩;rcases a.row.2 with⟨hv,al⟩ | ⟨g,ab,be,hv,bo,hg,hc,_,_,ht⟩
     ·exact⟨none,0,by rw [al];exact hv,by omega,.inl al⟩
     ·refine⟨some ⟨g,0,none⟩,ab,hv,hc,.inr ⟨g,0,be,rfl,fun x=>by have:=p.mlt g x;omega,hg,?_⟩⟩;intro i u P;rw [Nat.zero_add];rw [<- ht,List.getElem?_take] at P;split at P
      ·simpa using P
      ·cases P
    have HT:Hid (t.ns.length<=s.ns.length+(l.map (BB m)).sum):=show _<=_ from by have Z:=Pl.DH (l.map (BB m)) k;have h3:=a.zl;omega
    obtain⟨L,f,rfl,V,_⟩:=iJ a.row a.nl;clear ak G;go_wp2_with fail;go_ret2;exact⟨_,_,rfl,aM (aI E) a.gm,t,a.sg,a.pb,HT,z,.inl ⟨l,rfl,N,rfl,bd⟩⟩
 ·have N:Hid (eJ t=false):=by
   show eJ t=false;unfold eJ;split
   ·exact absurd ⟨_,rfl⟩ I
   ·rfl
  obtain⟨x,C⟩:=h.KR I;clear h I hR hz hB;rcases C with rfl | rfl | rfl
  ·go_enter func93,ntmps93
   go_wp2_with (go_at_call 71;refine(aS _ _).mono ?_;rintro e Q ⟨rfl,rfl⟩)
   go_ret2;exact⟨_,_,rfl,aI (bB w _),s,DK.refl _,rfl,Nat.le_add_right _ _,HR.below (bB w _),.inr ⟨N,_,rfl⟩⟩
  ·go_enter func93,ntmps93
   go_wp2_with (go_at_call 71;refine(aS _ _).mono ?_;rintro e Q ⟨rfl,rfl⟩)
   go_ret2;exact⟨_,_,rfl,aI (bB w _),s,DK.refl _,rfl,Nat.le_add_right _ _,HR.below (bB w _),.inr ⟨N,_,rfl⟩⟩
  ·go_enter func93,ntmps93
   go_wp2_with (go_at_call 71;refine(aS _ _).mono ?_;rintro e Q ⟨rfl,rfl⟩)
   go_ret2;exact⟨_,_,rfl,aI (bB w _),s,DK.refl _,rfl,Nat.le_add_right _ _,HR.below (bB w _),.inr ⟨N,_,rfl⟩⟩
theorem vZ{f:Tr->Option PF}{a:List Tr}(h:¬a.length=2):Pl.J9 f a=none:=by
 match a,h with
 | [],_=>rfl
 | [_],_=>rfl
 | _::_::_::_,_=>rfl
theorem zZ{f:Tr->Option PF}{a b:Tr}(h:eJ a=false):Pl.EA f a b=none:=by
 unfold Pl.EA;unfold eJ at h;split
 ·rw [if_neg (by simpa using h)]
 ·rfl
theorem YB{n:Nat}{l:List Tr}{b:Tr}(h:Pl.CJ l=true)(q:Nat):EF (Pl.EA (AD n) (.agg l) b) q=(EF (AD n b) q).map fun r=>(BN .lambda [] .nil [r.1] (l.map Pl.strOf),r.2):=by
 simp only [Pl.EA,h,if_true]
 cases AD n b with
 | none=>rfl
 | some f=>simp [EF,BN,Pl.BC,Pl.BO,Pl.BV]
theorem qQ(n:Nat)(hF:GB n)(M:Nat->Prop)(w:World)(s:Sg)(tb mb:Nat)(ps:List (PV×PV))(sl:Value)(vs:List Value)(N:List Tr)(hR:BM M w s tb mb ps)(P:CD M w sl vs)(Q:C9 M n w vs N)(hB:∀x∈N,cL n x)(hz:s.ns.length+(N.map (BB n)).sum<=BS)(o:FR)(ho:o=EF (Pl.J9 (AD n) N) ps.length) :Calls prog 76 #[D2 tb,sl] w fun e D=>A5 M w s tb mb ps o (N.map (BB n)).sum e D:=by
 have R:Hid (BM M w s tb mb ps):=hR;have E:=Q.1;unfold D2;by_cases O:N.length=2
 ·obtain⟨j,c,rfl⟩:=fO O;obtain⟨u1,u2,rfl⟩:=fO (E.trans O);have r1:=Q.2 0 u1 j rfl rfl;have r2:=Q.2 1 u2 c rfl rfl;have S:s.ns.length+BB n j+BB n c<=BS:=by simp only [List.map_cons,List.map_nil,List.sum_cons,List.sum_nil] at hz;omega
  have HZ:Hid (s.ns.length+BB n j+BB n c<=BS/\BB n j+BB n c=([j,c].map (BB n)).sum):=⟨S,by simp⟩
  have t:=bB w (A0 tb);have F:Hid (Calls prog 93 #[.agg #[.pointer (some ⟨tb,0,none⟩)],u1] (w.alloc (A0 tb)).drew fun e D=>∃v2 G,e=.returned (.tuple #[v2,G])/\Hid (P8 M (w.alloc (A0 tb)).drew s tb mb ps j (BB n j) v2 G D)) :=XK n M _ s tb mb ps u1 j (hR.below t.drew) (r1.go (Stp.AA t.drew)) (hB j (by simp)) (by omega);have ab:Hid (JI M w u2 (EF (AD n c)) (BB n c)):=hF M w u2 c r2 (hB c (by simp));have HO:Hid (o=EF (Pl.EA (AD n) j c) ps.length):=ho;obtain⟨T1,x1,rfl,o1⟩:=r1.iface;obtain⟨T2,x2,rfl,o2⟩:=r2.iface;obtain⟨g,ac,ad,rfl,T,hg,k0,ks⟩:=(Sl.C7 P).cell0;have k1:=ks 0 _ rfl;simp only [Nat.zero_add,c_,z_] at k1 T ⊢;have H:Hid (∀U:World,w.grownBy U (some mb)->U.cell? ⟨g,ac+1,none⟩=some (.iface T2 x2)):=fun U ae=>wQ P ae R.FV 1 _ rfl;have af:Hid (mb<w.heap.size):=R.B3.lt.2;have ag:Hid (Below w.heap.size w (w.alloc (A0 tb)).drew):=t.drew;have ah:Hid ((w.alloc (A0 tb)).heap[w.heap.size]?=some (A0 tb)):=heap_alloc_new _ _;clear Q hB hF r1 r2 E O ks hR o1 o2 hz ho P t S;go_enter func76,ntmps76
  go_upto_region 40 with fail
  go_cut [6,7] (fun v6 e7 U=>Hid (P8 M (w.alloc (A0 tb)).drew s tb mb ps j (BB n j) v6 e7 U))
  case first =>
   go_region_with (go_at_call 93;refine Calls.mono F ?_;rintro e w2 ⟨v,G,rfl,HQ⟩)
   all_goals
    go_wp2_with fail
    go_meet
    exact HQ
  case rest =>
   obtain⟨m,ai⟩:∃m,m=wc:=⟨_,rfl⟩
   subst ai;obtain⟨u,k,y,d,I,b,f⟩:=hcut.out;have z:Hid (w.grownBy m (some mb)):=aM (aI ag) u;have c0:m.cell? ⟨w.heap.size,0,none⟩=some (.pointer (some ⟨tb,0,none⟩)):=by have:=(u.block w.heap.size (by show _<(w.alloc _).heap.size;simp) (by have:=af.out;simp;omega)).trans ah;exact aA this 0
   have c1:=H.out m z;rcases f with⟨l,rfl,V,J,W⟩ | ⟨X,es,J⟩
   ·subst J;have aj:Hid (Calls prog 43 #[.agg #[.pointer (some ⟨tb,0,none⟩)],.iface T2 x2] m.drew fun e D=>∃v G,e=.returned (.tuple #[v,G])/\Hid (LM M m.drew k tb mb ps (EF (AD n c) ps.length) (BB n c) v G D)) :=(ab M m.drew k tb mb ps ((eL z R.FV).trans (Stp.AA r_.drew)) (b.below r_.drew) (by have:=HZ.1;omega)).mono (fun e D h=>h.one);have ak:Hid (EI M m k u6 (l.map Pl.strOf)):=W;have K:Hid (DK s k/\k.pb=s.pb/\k.ns.length<=s.ns.length+BB n (.agg l)):=⟨y,d,I⟩
    have Y:Hid (o=(EF (AD n c) ps.length).map fun r=>(BN .lambda [] .nil [r.1] (l.map Pl.strOf),r.2)):=HO.trans (YB V _);obtain⟨an,al,Z⟩:=W.ex;simp only [List.length_map] at Z;obtain⟨_,am,aa,rfl,_⟩:=Z;clear hcut u y d I b V F k0 k1 al
    go_upto_region 40 with fail
    go_cut [7,8] (fun e7 v8 wy=>Hid (LM M m.drew k tb mb ps (EF (AD n c) ps.length) (BB n c) v8 e7 wy))
    case first =>
     go_region_with (go_at_call 43;refine Calls.mono aj ?_;rintro e w2 ⟨v,G,rfl,HQ⟩)
     all_goals
      go_wp2_with fail
      go_meet
      exact HQ
    case rest =>
     obtain⟨a,A,i,B,f⟩:=hcut.out;have HG:Hid (w.grownBy wc (some mb)):=aM z ⟨a.os,a.tape,a.output,a.size,a.block⟩
     have L:Hid (DK s A/\A.ns.length<=s.ns.length+([.agg l,c].map (BB n)).sum):=⟨K.1.trans i,by
      have h1:=K.2.2;have O:=HZ.2
      omega⟩
     rcases f with⟨r,hr,J,b,p⟩ | ⟨hr,d,b,es,J⟩
     ·subst J;have q:Hid (o=some (BN .lambda [] .nil [r.1] (l.map Pl.strOf),r.2)):=show o=_ from by rw [Y.out,hr];rfl
      have C:Hid (BM M wc A tb mb (ps++r.2)/\CP M wc A (.iface 210 (.agg #[.slice am l.length aa,u8])) (BN .lambda [] .nil [r.1] (l.map Pl.strOf))):=⟨b,.lambda _ _ _ [] .nil .nothing _ (ak.go (eL ⟨a.os,a.tape,a.output,a.size,a.block⟩ R.FV) i.le) p⟩
      obtain⟨T9,x9,rfl⟩:=p.iface;clear hcut a i B hr b p;go_wp2_with fail;go_ret2;exact⟨HG,A,L.1,L.2,.inl ⟨_,_,q,rfl,C.1,C.2⟩⟩
     ·subst J;have q:Hid (o=none):=show o=_ from by rw [Y.out,hr];rfl
      have C:Hid (BM M wc A tb mb ps/\A.pb=s.pb):=⟨b,d.trans K.2.1⟩
      clear hcut a i B hr b d;unfold aY;go_wp2_with fail;go_ret2;exact⟨HG,A,L.1,L.2,.inr ⟨q,C.2,C.1,_,_,rfl⟩⟩
   ·subst J;have q:Hid (o=none):=show o=_ from by rw [HO.out,zZ X];rfl
    have C:Hid (BM M m k tb mb ps/\k.pb=s.pb):=⟨b,d⟩
    have L:Hid (DK s k/\k.ns.length<=s.ns.length+([j,c].map (BB n)).sum):=⟨y,by have:=HZ.2;omega⟩
    clear hcut u y I b d X F k0 k1;unfold aY;go_wp2_with fail;go_ret2;exact⟨z,k,L.1,L.2,.inr ⟨q,C.2,C.1,_,_,rfl⟩⟩
 ·have HE:Hid (o=none):=show o=none from by rw [ho,vZ O];rfl
  obtain⟨ao,ad,rfl,_⟩:=Sl.C7 P;have ap:((vs.length:Int)!=2)=true:=by simp;omega
  clear P Q hB hR O E ho hF hz;go_enter func76,ntmps76;go_wp2_with (go_at_call 71;refine(aS _ _).mono ?_;rintro e D ⟨rfl,rfl⟩);go_ret2;exact⟨aI (bB w _),s,DK.refl _,Nat.le_add_right _ _,.inr ⟨HE,rfl,R.below (bB w _),_,_,rfl⟩⟩
end
end Go.Proofs.YtieooapcfpimlaaGreatDoor
