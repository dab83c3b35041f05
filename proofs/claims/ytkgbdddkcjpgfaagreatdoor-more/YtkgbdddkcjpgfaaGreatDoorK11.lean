import Derived.Test.YtkgbdddkcjpgfaaGreatDoorK10
namespace Go.Proofs.YtkgbdddkcjpgfaaGreatDoor
set_option maxHeartbeats 2000000
set_option maxRecDepth 100000
open Go.Proofs.Tryz
section
open Go.RowKit
theorem cY{n:Nat}{w w':World}{b dep dpst:Nat}{g:Bool}{l:List (List UInt8)}{p:Pl.PR}{v rest':Value}{d:Int}{g':Bool}(hpd:Pl.pd n l=some p)(hg:w.grownBy w' (some b))(hrep:RepP (fun k=>w.heap.size<=k) n w' v p.t)(hrd:PRd w' b rest' dep d g')(hd:d=((max dpst (dep+p.dp):Nat):Int))(hgr:g'=(g||p.gr))(htk:TkSl w' rest' p.q):PDPost n w b dep dpst g l (.returned (.tuple #[v,.nilIface])) w':=by refine⟨hg,?_⟩;rw [hpd];exact⟨v,rest',rfl,hrep,hrd.cast rfl hd hgr,htk⟩
theorem jH(n:Nat)(w:World)(b:Nat)(rest:Value)(dep dpst:Nat)(g:Bool)(h:PRd w b rest dep dpst g)(ht:TkSl w rest []) :Calls prog 148 #[.pointer (some ⟨b,0,none⟩)] w fun e w'=>PDPost n w b dep dpst g [] e w':=by
 obtain⟨ao,cap,rfl,_⟩:=ht;obtain⟨c0,c1,c2,c3⟩:=h.cells;have hpd:Hid (Pl.pd n []=none):=by cases n<;>rfl
 simp only [List.length_nil] at c0;clear h;go_enter func148,ntmps148;go_wp2_with (go_at_call 78;refine(bJ _ _ _).mono ?_;rintro e w' ⟨rfl,rfl⟩);go_ret2;refine⟨World.grownBy.refl _ _,?_⟩;rw [hpd.out];exact⟨_,rfl⟩
theorem bU{w:World}{b:Nat}{x:Value}{o:Obj}:w.grownBy ((w.setCell ⟨b,0,none⟩ x).alloc o) (some b):=aC (aE _ _ _ _) (World.grownBy_alloc _ _ _)
theorem nJ(n:Nat)(w:World)(b:Nat)(rest:Value)(r:List (List UInt8))(dep dpst:Nat)(g:Bool)(h:PRd w b rest dep dpst g)(ht:TkSl w rest ([35,116]::r))(hdd:dep<=dpst) :Calls prog 148 #[.pointer (some ⟨b,0,none⟩)] w fun e w'=>PDPost (n+1) w b dep dpst g ([35,116]::r) e w':=by
 have hpd:Hid (_=_):=Pl.pd_true n [35,116] r rfl;obtain⟨g0,off,cap,hrst,hcap,hg0,k0,k1,htl⟩:=ht.cons;subst hrst;have HTl:Hid (∀(ao:Option Addr)(c:Nat),r.length<=c->(r.length≠0->ao=some ⟨g0,off+2,none⟩)->TkSl w (.slice ao r.length c) r):=htl;have HH:Hid (PRd w b _ dep dpst g):=h;obtain⟨c0,c1,c2,c3⟩:=h.cells;have f0:=aF h 0;have hbw:b<w.heap.size:=aB h;have hz:((r.length:Int)+1==0)=false:=by simp;omega
 clear htl h ht;rw [show cE [35,116]=3 from rfl] at k0;go_enter func148,ntmps148;go_wp2_with fail
 ·go_ret2;exact cY hpd.out (aC (aE _ _ _ _) (World.grownBy_alloc _ _ _)) (RepP.up 1 _ _ _ (by omega) rfl) ((HH.out.set0 _).alloc _) (by dsimp only;omega) (by simp) (((HTl.out _ _ (by omega) (by intro hh;first | rfl | (exfalso;omega))).grown (aE _ _ _ _) HH.out).below ((Below.refl _ _).alloc (Nat.le_refl _) _))
 ·go_ret2;exact cY hpd.out (aC (aE _ _ _ _) (World.grownBy_alloc _ _ _)) (RepP.up 1 _ _ _ (by omega) rfl) ((HH.out.set0 _).alloc _) (by dsimp only;omega) (by simp) (((HTl.out _ _ (by omega) (by intro hh;first | rfl | (exfalso;omega))).grown (aE _ _ _ _) HH.out).below ((Below.refl _ _).alloc (Nat.le_refl _) _))
theorem lW(n:Nat)(w:World)(b:Nat)(rest:Value)(r:List (List UInt8))(dep dpst:Nat)(g:Bool)(h:PRd w b rest dep dpst g)(ht:TkSl w rest ([35,102]::r))(hdd:dep<=dpst) :Calls prog 148 #[.pointer (some ⟨b,0,none⟩)] w fun e w'=>PDPost (n+1) w b dep dpst g ([35,102]::r) e w':=by
 have hpd:Hid (_=_):=Pl.pd_false n [35,102] r rfl;obtain⟨g0,off,cap,hrst,hcap,hg0,k0,k1,htl⟩:=ht.cons;subst hrst;have HTl:Hid (∀(ao:Option Addr)(c:Nat),r.length<=c->(r.length≠0->ao=some ⟨g0,off+2,none⟩)->TkSl w (.slice ao r.length c) r):=htl;have HH:Hid (PRd w b _ dep dpst g):=h;obtain⟨c0,c1,c2,c3⟩:=h.cells;have f0:=aF h 0;have hbw:b<w.heap.size:=aB h;have hz:((r.length:Int)+1==0)=false:=by simp;omega
 clear htl h ht;rw [show cE [35,102]=3 from rfl] at k0;go_enter func148,ntmps148;go_wp2_with fail
 ·go_ret2;exact cY hpd.out (aC (aE _ _ _ _) (World.grownBy_alloc _ _ _)) (RepP.up 1 _ _ _ (by omega) rfl) ((HH.out.set0 _).alloc _) (by dsimp only;omega) (by simp) (((HTl.out _ _ (by omega) (by intro hh;first | rfl | (exfalso;omega))).grown (aE _ _ _ _) HH.out).below ((Below.refl _ _).alloc (Nat.le_refl _) _))
 ·go_ret2;exact cY hpd.out (aC (aE _ _ _ _) (World.grownBy_alloc _ _ _)) (RepP.up 1 _ _ _ (by omega) rfl) ((HH.out.set0 _).alloc _) (by dsimp only;omega) (by simp) (((HTl.out _ _ (by omega) (by intro hh;first | rfl | (exfalso;omega))).grown (aE _ _ _ _) HH.out).below ((Below.refl _ _).alloc (Nat.le_refl _) _))
theorem lX(n:Nat)(w:World)(b:Nat)(rest:Value)(r:List (List UInt8))(dep dpst:Nat)(g:Bool)(h:PRd w b rest dep dpst g)(ht:TkSl w rest ([41]::r)) :Calls prog 148 #[.pointer (some ⟨b,0,none⟩)] w fun e w'=>PDPost (n+1) w b dep dpst g ([41]::r) e w':=by
 have hpd:Hid (_=_):=Pl.pd_close n [41] r rfl;obtain⟨g0,off,cap,hrst,hcap,hg0,k0,k1,htl⟩:=ht.cons;subst hrst;have HTl:Hid (∀(ao:Option Addr)(c:Nat),r.length<=c->(r.length≠0->ao=some ⟨g0,off+2,none⟩)->TkSl w (.slice ao r.length c) r):=htl;have HH:Hid (PRd w b _ dep dpst g):=h;obtain⟨c0,c1,c2,c3⟩:=h.cells;have f0:=aF h 0;have hbw:b<w.heap.size:=aB h;have hz:((r.length:Int)+1==0)=false:=by simp;omega
 clear htl h ht;rw [show cE [41]=1 from rfl] at k0;go_enter func148,ntmps148;go_wp2_with (go_at_call 78;refine(bJ _ _ _).mono ?_;rintro e w' ⟨rfl,rfl⟩)
 ·go_ret2;refine⟨bU,?_⟩;rw [hpd.out];exact⟨_,rfl⟩
 ·go_ret2;refine⟨bU,?_⟩;rw [hpd.out];exact⟨_,rfl⟩
theorem nK(n:Nat)(ih:PDSaid n)(w:World)(b:Nat)(rest:Value)(r:List (List UInt8))(dep dpst:Nat)(g:Bool)(h:PRd w b rest dep dpst g)(ht:TkSl w rest ([40]::r))(hge:GE w)(hb2:6<b)(hn:([40]::r).length<=n+1)(hr:([40]::r).length<=1000)(hd:dep+([40]::r).length<=2000)(hdd:dep<=dpst)(hok:∀t∈[40]::r,OkT t) :Calls prog 148 #[.pointer (some ⟨b,0,none⟩)] w fun e w'=>PDPost (n+1) w b dep dpst g ([40]::r) e w':=by
 have hpd:=Pl.pd_open n [40] r rfl;obtain⟨g0,off,cap,hrst,hcap,hg0,k0,k1,htl⟩:=ht.cons;subst hrst;have HTl:Hid (∀(ao:Option Addr)(c:Nat),r.length<=c->(r.length≠0->ao=some ⟨g0,off+2,none⟩)->TkSl w (.slice ao r.length c) r):=htl;have HH:Hid (PRd w b _ dep dpst g):=h;obtain⟨c0,c1,c2,c3⟩:=h.cells;have f0:=aF h 0;have hbw:b<w.heap.size:=aB h;have hz:((r.length:Int)+1==0)=false:=by simp;omega
 clear htl h ht;have HGe:Hid (GE w):=hge;have HOk:Hid (∀t∈[40]::r,OkT t):=hok;clear hge hok;rw [show cE [40]=0 from rfl] at k0;go_enter func148,ntmps148;go_wp2_with fail
 ·refine(p_list n ih _ b _ r dep dpst g ((HH.out.set0 _).alloc _) ((((HTl.out _ _ (by omega) (by intro hh;first | rfl | (exfalso;omega))).grown (aE _ _ _ _) HH.out).below ((Below.refl _ _).alloc (Nat.le_refl _) _))) (HGe.out.grown bU hb2) hb2 (by simp at hn;omega) (by simp at hr;omega) (by simp at hd;omega) hdd (fun t ht=>HOk.out t (List.mem_cons_of_mem _ ht))).mono ?_;rintro e w2 ⟨hg2,hpost⟩;have HG2:Hid (w.grownBy w2 (some b)):=aC bU hg2
  cases hp:Pl.pls (Pl.pd n) r.length r with
  | none =>rw [hp] at hpost hpd;obtain⟨s,rfl⟩:=hpost;clear hg2 hp;have hpd2:Hid (_=_):=hpd;clear hpd;unfold aY;go_wp2_with fail;go_ret2;refine⟨HG2.out,?_⟩;rw [hpd2.out];exact⟨s,rfl⟩
  | some p =>rw [hp] at hpost hpd;obtain⟨v,rst',rfl,hrep,hrd2,htk2⟩:=hpost;have HRp:Hid (RepP _ _ _ _ _):=hrep;have HR2:Hid (PRd _ _ _ _ _ _):=hrd2;have HT2:Hid (TkSl _ _ _):=htk2;have hpd2:Hid (_=_):=hpd;clear hg2 hrep hrd2 htk2 hp hpd;go_wp2_with fail;go_ret2;exact cY hpd2.out HG2.out (RepP.mono (fun k _ hk=>by simp at hk;omega) _ _ _ HRp.out) HR2.out (by dsimp only;omega) rfl HT2.out
 ·refine(p_list n ih _ b _ r dep dpst g ((HH.out.set0 _).alloc _) ((((HTl.out _ _ (by omega) (by intro hh;first | rfl | (exfalso;omega))).grown (aE _ _ _ _) HH.out).below ((Below.refl _ _).alloc (Nat.le_refl _) _))) (HGe.out.grown bU hb2) hb2 (by simp at hn;omega) (by simp at hr;omega) (by simp at hd;omega) hdd (fun t ht=>HOk.out t (List.mem_cons_of_mem _ ht))).mono ?_;rintro e w2 ⟨hg2,hpost⟩;have HG2:Hid (w.grownBy w2 (some b)):=aC bU hg2
  cases hp:Pl.pls (Pl.pd n) r.length r with
  | none =>rw [hp] at hpost hpd;obtain⟨s,rfl⟩:=hpost;clear hg2 hp;have hpd2:Hid (_=_):=hpd;clear hpd;unfold aY;go_wp2_with fail;go_ret2;refine⟨HG2.out,?_⟩;rw [hpd2.out];exact⟨s,rfl⟩
  | some p =>rw [hp] at hpost hpd;obtain⟨v,rst',rfl,hrep,hrd2,htk2⟩:=hpost;have HRp:Hid (RepP _ _ _ _ _):=hrep;have HR2:Hid (PRd _ _ _ _ _ _):=hrd2;have HT2:Hid (TkSl _ _ _):=htk2;have hpd2:Hid (_=_):=hpd;clear hg2 hrep hrd2 htk2 hp hpd;go_wp2_with fail;go_ret2;exact cY hpd2.out HG2.out (RepP.mono (fun k _ hk=>by simp at hk;omega) _ _ _ HRp.out) HR2.out (by dsimp only;omega) rfl HT2.out
theorem lV(n:Nat)(ih:PDSaid n)(w:World)(b:Nat)(rest:Value)(r:List (List UInt8))(dep dpst:Nat)(g:Bool)(h:PRd w b rest dep dpst g)(ht:TkSl w rest ([39]::r))(hge:GE w)(hb2:6<b)(hn:([39]::r).length<=n+1)(hr:([39]::r).length<=1000)(hd:dep+([39]::r).length<=2000)(hdd:dep<=dpst)(hok:∀t∈[39]::r,OkT t) :Calls prog 148 #[.pointer (some ⟨b,0,none⟩)] w fun e w'=>PDPost (n+1) w b dep dpst g ([39]::r) e w':=by
 have hpd:=Pl.pd_quote n [39] r rfl;obtain⟨g0,off,cap,hrst,hcap,hg0,k0,k1,htl⟩:=ht.cons;subst hrst;have HTl:Hid (∀(ao:Option Addr)(c:Nat),r.length<=c->(r.length≠0->ao=some ⟨g0,off+2,none⟩)->TkSl w (.slice ao r.length c) r):=htl;have HH:Hid (PRd w b _ dep dpst g):=h;obtain⟨c0,c1,c2,c3⟩:=h.cells;have f0:=aF h 0;have hbw:b<w.heap.size:=aB h;have hz:((r.length:Int)+1==0)=false:=by simp;omega
 clear htl h ht;have HGe:Hid (GE w):=hge;have HOk:Hid (∀t∈[39]::r,OkT t):=hok;clear hge hok;rw [show cE [39]=2 from rfl] at k0;go_enter func148,ntmps148;go_wp2_with fail
 ·refine(qM n ih _ b _ r dep dpst g ((HH.out.set0 _).alloc _) ((((HTl.out _ _ (by omega) (by intro hh;first | rfl | (exfalso;omega))).grown (aE _ _ _ _) HH.out).below ((Below.refl _ _).alloc (Nat.le_refl _) _))) (HGe.out.grown bU hb2) hb2 (by simp at hn;omega) (by simp at hr;omega) (by simp at hd;omega) hdd (fun t ht=>HOk.out t (List.mem_cons_of_mem _ ht))).mono ?_;rintro e w2 ⟨hg2,hpost⟩;have HG2:Hid (w.grownBy w2 (some b)):=aC bU hg2
  cases hp:Pl.pd n r with
  | none =>rw [hp] at hpost hpd;obtain⟨s,rfl⟩:=hpost;clear hg2 hp;have hpd2:Hid (_=_):=hpd;clear hpd;unfold aY;go_wp2_with fail;go_ret2;refine⟨HG2.out,?_⟩;rw [hpd2.out];exact⟨s,rfl⟩
  | some p =>rw [hp] at hpost hpd;obtain⟨v,rst',rfl,hrep,hrd2,htk2⟩:=hpost;have HRp:Hid (RepP _ _ _ _ _):=hrep;have HR2:Hid (PRd _ _ _ _ _ _):=hrd2;have HT2:Hid (TkSl _ _ _):=htk2;have hpd2:Hid (_=_):=hpd;clear hg2 hrep hrd2 htk2 hp hpd;go_wp2_with fail;go_ret2;exact cY hpd2.out HG2.out (RepP.mono (fun k _ hk=>by simp at hk;omega) _ _ _ HRp.out) HR2.out (by dsimp only;omega) rfl HT2.out
 ·refine(qM n ih _ b _ r dep dpst g ((HH.out.set0 _).alloc _) ((((HTl.out _ _ (by omega) (by intro hh;first | rfl | (exfalso;omega))).grown (aE _ _ _ _) HH.out).below ((Below.refl _ _).alloc (Nat.le_refl _) _))) (HGe.out.grown bU hb2) hb2 (by simp at hn;omega) (by simp at hr;omega) (by simp at hd;omega) hdd (fun t ht=>HOk.out t (List.mem_cons_of_mem _ ht))).mono ?_;rintro e w2 ⟨hg2,hpost⟩;have HG2:Hid (w.grownBy w2 (some b)):=aC bU hg2
  cases hp:Pl.pd n r with
  | none =>rw [hp] at hpost hpd;obtain⟨s,rfl⟩:=hpost;clear hg2 hp;have hpd2:Hid (_=_):=hpd;clear hpd;unfold aY;go_wp2_with fail;go_ret2;refine⟨HG2.out,?_⟩;rw [hpd2.out];exact⟨s,rfl⟩
  | some p =>rw [hp] at hpost hpd;obtain⟨v,rst',rfl,hrep,hrd2,htk2⟩:=hpost;have HRp:Hid (RepP _ _ _ _ _):=hrep;have HR2:Hid (PRd _ _ _ _ _ _):=hrd2;have HT2:Hid (TkSl _ _ _):=htk2;have hpd2:Hid (_=_):=hpd;clear hg2 hrep hrd2 htk2 hp hpd;go_wp2_with fail;go_ret2;exact cY hpd2.out HG2.out (RepP.mono (fun k _ hk=>by simp at hk;omega) _ _ _ HRp.out) HR2.out (by dsimp only;omega) rfl HT2.out
theorem sZ{t:List UInt8}(h:¬cE t<4):¬t=[41]/\¬t=[35,116]/\¬t=[35,102]/\¬t=[39]/\¬t=[40]/\cE t=if Pl.isNum t then 4 else 5:=by
 unfold cE at h ⊢;by_cases h1:t=[40]
 ·exact absurd (by simp [h1]) h
 by_cases h2:t=[41]
 ·exact absurd (by simp [h2]) h
 by_cases h3:t=[39]
 ·exact absurd (by simp [h3]) h
 by_cases h4:t=[35,116]
 ·exact absurd (by simp [h4]) h
 by_cases h5:t=[35,102]
 ·exact absurd (by simp [h5]) h
 rw [if_neg h1,if_neg h2,if_neg h3,if_neg (by simp [h4,h5])];exact⟨h2,h4,h5,h3,h1,rfl⟩
theorem z8{t:List UInt8}(h:cE t<4):t=[41]\/t=[35,116]\/t=[35,102]\/t=[39]\/t=[40]:=by
 unfold cE at h;by_cases h1:t=[40]
 ·exact .inr (.inr (.inr (.inr h1)))
 by_cases h2:t=[41]
 ·exact .inl h2
 by_cases h3:t=[39]
 ·exact .inr (.inr (.inr (.inl h3)))
 by_cases h4:t=[35,116]
 ·exact .inr (.inl h4)
 by_cases h5:t=[35,102]
 ·exact .inr (.inr (.inl h5))
 rw [if_neg h1,if_neg h2,if_neg h3,if_neg (by simp [h4,h5])] at h;split at h<;>omega
theorem nL(n:Nat)(w:World)(b:Nat)(rest:Value)(t:List UInt8)(r:List (List UInt8))(dep dpst:Nat)(g:Bool)(h:PRd w b rest dep dpst g)(ht:TkSl w rest (t::r))(hdd:dep<=dpst)(hk:cE t=5)(hp0:Pl.pd (n+1) (t::r)=some ⟨.lit (.string t),r,0,false⟩) :Calls prog 148 #[.pointer (some ⟨b,0,none⟩)] w fun e w'=>PDPost (n+1) w b dep dpst g (t::r) e w':=by
 have hpd:Hid (_=_):=hp0;clear hp0;obtain⟨g0,off,cap,hrst,hcap,hg0,k0,k1,htl⟩:=ht.cons;subst hrst;have HTl:Hid (∀(ao:Option Addr)(c:Nat),r.length<=c->(r.length≠0->ao=some ⟨g0,off+2,none⟩)->TkSl w (.slice ao r.length c) r):=htl;have HH:Hid (PRd w b _ dep dpst g):=h;obtain⟨c0,c1,c2,c3⟩:=h.cells;have f0:=aF h 0;have hbw:b<w.heap.size:=aB h;have hz:((r.length:Int)+1==0)=false:=by simp;omega
 clear htl h ht;rw [hk] at k0;clear hk;go_enter func148,ntmps148;go_wp2_with fail
 ·go_ret2;exact cY hpd.out (aC (aE _ _ _ _) (World.grownBy_alloc _ _ _)) (RepP.up 1 _ _ _ (by omega) rfl) ((HH.out.set0 _).alloc _) (by dsimp only;omega) (by simp) (((HTl.out _ _ (by omega) (by intro hh;first | rfl | (exfalso;omega))).grown (aE _ _ _ _) HH.out).below ((Below.refl _ _).alloc (Nat.le_refl _) _))
 ·go_ret2;exact cY hpd.out (aC (aE _ _ _ _) (World.grownBy_alloc _ _ _)) (RepP.up 1 _ _ _ (by omega) rfl) ((HH.out.set0 _).alloc _) (by dsimp only;omega) (by simp) (((HTl.out _ _ (by omega) (by intro hh;first | rfl | (exfalso;omega))).grown (aE _ _ _ _) HH.out).below ((Below.refl _ _).alloc (Nat.le_refl _) _))
theorem o0(n:Nat)(w:World)(b:Nat)(rest:Value)(t:List UInt8)(r:List (List UInt8))(dep dpst:Nat)(g:Bool)(h:PRd w b rest dep dpst g)(ht:TkSl w rest (t::r))(hge:GE w)(hb2:6<b)(hdd:dep<=dpst)(hk:cE t=4)(hn:Pl.isNum t=true)(hl0:0<t.length)(hl1:t.length<=1000)(hp0:Pl.pd (n+1) (t::r)=some ⟨.lit (.int .i64 (Pl.sval t)),r,0,Pl.great t⟩) :Calls prog 148 #[.pointer (some ⟨b,0,none⟩)] w fun e w'=>PDPost (n+1) w b dep dpst g (t::r) e w':=by
 have hpd:Hid (_=_):=hp0;have HN:Hid (_=_):=hn;have HGe:Hid (GE w):=hge;clear hp0 hn hge;obtain⟨g0,off,cap,hrst,hcap,hg0,k0,k1,htl⟩:=ht.cons;subst hrst;have HTl:Hid (∀(ao:Option Addr)(c:Nat),r.length<=c->(r.length≠0->ao=some ⟨g0,off+2,none⟩)->TkSl w (.slice ao r.length c) r):=htl;have HH:Hid (PRd w b _ dep dpst g):=h;obtain⟨c0,c1,c2,c3⟩:=h.cells;have f0:=aF h 0;have hbw:b<w.heap.size:=aB h;have hz:((r.length:Int)+1==0)=false:=by simp;omega
 clear htl h ht;rw [hk] at k0;clear hk;go_enter func148,ntmps148;go_wp2_with fail
 ·refine(qO _ b _ dep dpst g _ ((HH.out.set0 _).alloc _) (HGe.out.grown bU hb2) (by simpa [ByteArray.size] using hl1) (by simpa [ByteArray.size] using hl0) (by simpa using HN.out)).mono ?_;rintro e w2 ⟨k,rfl,hk2,hg2,hrd2⟩;have HK:Hid (_->_):=hk2;have HG:Hid (World.grownBy _ w2 (some b)):=hg2;have HR:Hid (PRd w2 b _ _ _ _):=hrd2;clear hk2 hg2 hrd2;go_wp2_with fail;go_ret2;refine cY hpd.out (aC bU HG.out) ⟨_,rfl,HK.out⟩ HR.out (by dsimp only;omega) (by simp) ?_;exact((((HTl.out _ _ (by omega) (by intro hh;first | rfl | (exfalso;omega))).grown (aE _ _ _ _) HH.out).below ((Below.refl _ _).alloc (Nat.le_refl _) _))).grown HG.out ((HH.out.set0 _).alloc _)
 ·refine(qO _ b _ dep dpst g _ ((HH.out.set0 _).alloc _) (HGe.out.grown bU hb2) (by simpa [ByteArray.size] using hl1) (by simpa [ByteArray.size] using hl0) (by simpa using HN.out)).mono ?_;rintro e w2 ⟨k,rfl,hk2,hg2,hrd2⟩;have HK:Hid (_->_):=hk2;have HG:Hid (World.grownBy _ w2 (some b)):=hg2;have HR:Hid (PRd w2 b _ _ _ _):=hrd2;clear hk2 hg2 hrd2;go_wp2_with fail;go_ret2;refine cY hpd.out (aC bU HG.out) ⟨_,rfl,HK.out⟩ HR.out (by dsimp only;omega) (by simp) ?_;exact((((HTl.out _ _ (by omega) (by intro hh;first | rfl | (exfalso;omega))).grown (aE _ _ _ _) HH.out).below ((Below.refl _ _).alloc (Nat.le_refl _) _))).grown HG.out ((HH.out.set0 _).alloc _)
theorem vB:∀n,PDSaid n
 | 0=>by intro w b rest l dep dpst g h ht hge hb2 hn hr hd hdd hok;obtain rfl:=List.eq_nil_of_length_eq_zero (Nat.le_zero.1 hn);exact jH 0 w b rest dep dpst g h ht
 | n+1=>by
  intro w b rest l dep dpst g h ht hge hb2 hn hr hd hdd hok;have ih:=vB n
  cases l with
  | nil=>exact jH _ w b rest dep dpst g h ht
  | cons t r =>
   by_cases hlow:cE t<4
   ·rcases z8 hlow with h1 | h1 | h1 | h1 | h1<;>subst h1
    ·exact lX n w b rest r dep dpst g h ht
    ·exact nJ n w b rest r dep dpst g h ht hdd
    ·exact lW n w b rest r dep dpst g h ht hdd
    ·exact lV n ih w b rest r dep dpst g h ht hge hb2 hn hr hd hdd hok
    ·exact nK n ih w b rest r dep dpst g h ht hge hb2 hn hr hd hdd hok
   ·obtain⟨h1,h2,h3,h4,h5,hk⟩:=sZ hlow;have hpd:=Pl.pd_word n t r h1 h2 h3 h4 h5;obtain⟨hc,hl0,hl1⟩:=hok t (List.mem_cons_self ..);unfold Pl.pw at hpd;by_cases hN:Pl.isNum t=true
    ·rw [if_pos hN] at hk hpd;exact o0 n w b rest t r dep dpst g h ht hge hb2 hdd hk hN hl0 hl1 hpd
    ·have hD:Pl.noDig t=true:=by
      rcases hc with hc | hc | hc
      ·exact absurd hc hlow
      ·exact absurd hc hN
      ·exact hc
     rw [if_neg hN] at hk hpd;rw [if_pos hD] at hpd;exact nL n w b rest t r dep dpst g h ht hdd hk hpd
def PWPost(n:Nat)(w:World)(b dpst:Nat)(g:Bool)(l:List (List UInt8))(e:Ending)(w':World):Prop :=
 w.grownBy w' (some b) /\
 ((∃s,e=.returned (.tuple #[.nilIface,aY s 2])/\∀p,Pl.pd n l=some p->p.q≠[]) \/
  ∃p v rest',Pl.pd n l=some p/\p.q=[]/\e=.returned (.tuple #[v,.nilIface])/\RepP (fun k=>w.heap.size<=k) n w' v p.t/\PRd w' b rest' 0 ((max dpst p.dp:Nat):Int) (g||p.gr))
theorem p_whole(n:Nat)(w:World)(b:Nat)(rest:Value)(l:List (List UInt8))(g:Bool)(h:PRd w b rest 0 0 g)(ht:TkSl w rest l)(hge:GE w)(hb2:6<b)(hn:l.length<=n)(hr:l.length<=1000)(hok:∀t∈l,OkT t) :Calls prog 109 #[.pointer (some ⟨b,0,none⟩)] w fun e w'=>PWPost n w b 0 g l e w':=by
 have HH:Hid (PRd w b rest 0 0 g):=h;have HT:Hid (TkSl w rest l):=ht;have HGe:Hid (GE w):=hge;have HOk:Hid (∀t∈l,OkT t):=hok;clear h ht hge hok;go_enter func109,ntmps109;go_wp2_with fail;refine(vB n w b rest l 0 0 g HH.out HT.out HGe.out hb2 hn hr (by omega) (by omega) HOk.out).mono ?_;rintro e w2 ⟨hg2,hpost⟩;have HG2:Hid (w.grownBy w2 (some b)):=hg2;clear hg2
 cases hp:Pl.pd n l with
 | none =>rw [hp] at hpost;obtain⟨s,rfl⟩:=hpost;unfold aY;have HP:Hid (_=_):=hp;clear hp;go_wp2_with fail;go_ret2;exact⟨HG2.out,.inl ⟨_,rfl,fun p hq=>by rw [HP.out] at hq;simp at hq⟩⟩
 | some p =>
  rw [hp] at hpost;obtain⟨v,rst',rfl,hrep,hrd2,htk2⟩:=hpost;obtain⟨T,x,rfl,hv1⟩:=hrep.iface;have HP:Hid (_=_):=hp;have HRp:Hid (RepP _ _ _ _ _):=hrep;have HR2:Hid (PRd _ _ _ _ _ _):=hrd2;obtain⟨c0,c1,c2,c3⟩:=hrd2.cells;obtain⟨ao,cap,rfl,_⟩:=htk2;clear hrep hrd2 hp hv1;by_cases hq:p.q=[]
  ·have hlen:(p.q.length:Int)=0:=by simp [hq]
   have hgt:((0:Int)<(p.q.length:Int))=False:=by simp [hq]
   have HQ:Hid (_=_):=hq;clear hq;go_wp2_with fail;go_ret2;exact⟨HG2.out,.inr ⟨p,_,_,HP.out,HQ.out,rfl,HRp.out,HR2.out.cast (by simp) (by simp) rfl⟩⟩
  ·have hgt:(0:Int)<(p.q.length:Int):=by have:=List.length_pos_iff.2 hq;omega
   have HQ:Hid _:=hq;clear hq;go_wp2_with (go_at_call 78;refine(bJ _ _ _).mono ?_;rintro e w' ⟨rfl,rfl⟩);go_ret2;exact⟨HG2.out,.inl ⟨_,rfl,fun p' hq=>by rw [HP.out] at hq;obtain rfl:=Option.some.inj hq;exact HQ.out⟩⟩
end
end Go.Proofs.YtkgbdddkcjpgfaaGreatDoor
