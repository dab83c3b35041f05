import Derived.Deep.RegionWith
import Derived.Deep.DeepCutAuto
import Derived.Test.YtkgbdddkcjpgfaaGreatDoorK14
import Derived.LaidEql
import Derived.Test.YtkgbdddkcjpgfaaGreatDoorK04
namespace Go.Proofs.YtkgbdddkcjpgfaaGreatDoor
set_option maxHeartbeats 2000000
set_option maxRecDepth 100000
open Go.Proofs.Tryz
open Pl (PV FR formOf tsz mkF fmF)
section
open Go.RowKit
variable {v:Value}
theorem belN(w:World)(n:Nat):Below w.heap.size w (w.drewN n):=⟨rfl,rfl,rfl,Nat.le_refl _,fun _ _=>rfl⟩
theorem p_call(M:Nat->Prop)(w:World)(s:Sg)(tb mb:Nat)(ps:List (PV×PV))(sl:Value)(vs:List Value)(Fs:List (Nat->FR))(zs:List Nat)(hR:Rdr M w s tb mb ps)(hS:DRow M w sl vs)(hl:vs.length=Fs.length)(hzl:zs.length=Fs.length)(hlen:Fs.length<=2000)(hpos:1<=Fs.length)(hz:s.ns.length+zs.sum<=NsMax)(hv1:∀v∈vs,∃T x,v=.iface T x)
  (hF:∀(i:Nat)(v:Value)(F:Nat->FR)(z:Nat),vs[i]?=some v->Fs[i]?=some F->zs[i]?=some z->FCall M w v F z) (o:FR) (ho:o=(Pl.seqL Fs ps.length).map fun r=>(mkF .call [] .nil r.1 [],r.2)) :
  Calls prog 156 #[rdV tb,sl] w fun e w'=>FmPost M w s tb mb ps o zs.sum e w':=by
 have HR:Hid (Rdr M w s tb mb ps):=hR;have HB1:=bB w (rdO tb);have HC:Hid (Calls prog 189 #[rdV tb,sl] (w.alloc (rdO tb)) fun e w'=>FmsPost M (w.alloc (rdO tb)) s tb mb ps (Pl.seqL Fs ps.length) Fs.length zs.sum e w') :=u3 M _ s tb mb ps sl vs Fs zs (hR.below HB1) (Sl.stp (Stp.of_below HB1) hS) hl hzl hlen hz hv1 (fun i v F z h1 h2 h3=>(hF i v F z h1 h2 h3).go (Stp.of_below HB1));obtain⟨ao,cap,rfl,_⟩:=Sl.slOf hS;unfold rdV at HC ⊢;have HO:Hid (o=(Pl.seqL Fs ps.length).map fun r=>(mkF .call [] .nil r.1 [],r.2)):=ho;have HL:Hid (1<=Fs.length/\Fs.length<=2000):=⟨hpos,hlen⟩
 have HG1:Hid (Below w.heap.size w (w.alloc (rdO tb))):=HB1;clear hS hR HB1 hF ho hl hzl hlen hz hv1;go_enter func156,ntmps156;go_wp2_with fail;refine Calls.mono HC.out ?_;rintro e w2 ⟨hg,t,hsg,hnl,⟨r,v,us,hr,rfl,hrd,hsl,hul,hall⟩ | ⟨hr,hpb,hrd,v,es,rfl⟩⟩
 ·have HT:Hid (SgR s t/\t.ns.length<=s.ns.length+zs.sum):=⟨hsg,hnl⟩
  have HG:Hid (w.grownBy w2 (some mb)):=aM (aI HG1.out) hg;have HX:Hid (Rdr M w2 t tb mb (ps++r.2)/\RFm M w2 t (.iface 349 (.agg #[v])) (mkF .call [] .nil r.1 [])):=⟨hrd,.call v us [] .nil .nothing r.1 [] (p6 hsl hul hall) hall.1 hall.2 (by rw [<- hall.1,hul];exact HL.out.1) (by rw [<- hall.1,hul];exact HL.out.2)⟩
  have HO2:Hid (o=some (mkF .call [] .nil r.1 [],r.2)):=show _=_ from by rw [HO.out,hr];rfl
  obtain⟨_,ao2,cap2,rfl,_⟩:=hsl;clear hg hsg hnl hr hrd hul hall;go_wp2_with fail;go_ret2;exact⟨HG.out,t,HT.out.1,HT.out.2,.inl ⟨_,_,HO2.out,rfl,HX.out.1,HX.out.2⟩⟩
 ·have HT:Hid (SgR s t/\t.ns.length<=s.ns.length+zs.sum):=⟨hsg,hnl⟩
  have HG:Hid (w.grownBy w2 (some mb)):=aM (aI HG1.out) hg;have HT2:Hid (t.pb=s.pb/\Rdr M w2 t tb mb ps):=⟨hpb,hrd⟩
  have HE2:Hid (o=none):=show _=_ from by rw [HO.out,hr];rfl
  clear hg hsg hnl hr hrd hpb;unfold aY;go_wp2_with fail;go_ret2;exact⟨HG.out,t,HT.out.1,HT.out.2,.inr ⟨HE2.out,HT2.out.1,HT2.out.2,_,_,rfl⟩⟩
theorem yU(n:Nat)(hF:FSaid n)(M:Nat->Prop)(w:World)(s:Sg)(tb mb:Nat)(ps:List (PV×PV))(sl:Value)(vs:List Value)(ts:List Tr)(hR:Rdr M w s tb mb ps)(hS:DRow M w sl vs)(hA:AllD M n w vs ts)(hB:∀x∈ts,cL n x)(hlen:ts.length<=1000)(hz:s.ns.length+(ts.map (tsz n)).sum<=NsMax)(o:FR)(ho:o=fmF (if ts.length==3 then(Pl.allF (formOf n) ts).map fun l=>mkF .iff [] .nil l [] else none) ps.length) :Calls prog 151 #[rdV tb,sl] w fun e w'=>FmPost M w s tb mb ps o (ts.map (tsz n)).sum e w':=by
 have HR:Hid (Rdr M w s tb mb ps):=hR;have HB1:=bB w (rdO tb);have HC:Hid (Calls prog 189 #[rdV tb,sl] (w.alloc (rdO tb)) fun e w'=>FmsPost M (w.alloc (rdO tb)) s tb mb ps ((Pl.allF (formOf n) ts).map fun l=>Pl.settleL l ps.length) ts.length (ts.map (tsz n)).sum e w') :=rF n hF M _ s tb mb ps sl vs ts (hR.below HB1) (Sl.stp (Stp.of_below HB1) hS) (hA.mono (fun _ _ h=>h.go (Stp.of_below HB1))) hB hlen hz;have hvl:=hA.1;obtain⟨ao,cap,rfl,_⟩:=Sl.slOf hS;unfold rdV at HC ⊢;by_cases h0:ts.length=3
 ·have HE:Hid (o=((Pl.allF (formOf n) ts).map fun l=>Pl.settleL l ps.length).map fun r=>(mkF .iff [] .nil r.1 [],r.2)):=show o=_ from by
   rw [ho,if_pos (by simpa using h0)]
   cases Pl.allF (formOf n) ts with
   | none=>rfl
   | some l=>simp [fmF,mkF,Pl.settle_other]
  have hz:((vs.length:Int)!=3)=false:=by simp;omega
  have HL:Hid (ts.length=3):=h0;have HG1:Hid (Below w.heap.size w (w.alloc (rdO tb))):=HB1;clear hS hA hB hR h0 hvl HB1 hF ho;go_enter func151,ntmps151;go_wp2_with fail;refine Calls.mono HC.out ?_;rintro e w2 ⟨hg,t,hsg,hnl,⟨r,v,us,hr,rfl,hrd,hsl,hul,hall⟩ | ⟨hr,hpb,hrd,v,es,rfl⟩⟩
  ·have HT:Hid (SgR s t/\t.ns.length<=s.ns.length+(ts.map (tsz n)).sum):=⟨hsg,hnl⟩
   have HG:Hid (w.grownBy w2 (some mb)):=aM (aI HG1.out) hg;have hul3:=hul.trans HL.out;obtain⟨a,b,c,rfl⟩:=pZ hul3;obtain⟨x,y,z,hxyz⟩:=pZ (hall.1.symm.trans hul3);rw [hxyz] at hall;have h1:=hall.2 0 a x rfl rfl;have h2:=hall.2 1 b y rfl rfl;have h3:=hall.2 2 c z rfl rfl;have HX:Hid (Rdr M w2 t tb mb (ps++r.2)/\RFm M w2 t (.iface 335 (.agg #[a,b,c])) (mkF .iff [] .nil r.1 [])):=⟨hrd,by rw [hxyz];exact .iff a b c x y z [] .nil .nothing [] h1 h2 h3⟩
   have HO:Hid (o=some (mkF .iff [] .nil r.1 [],r.2)):=show _=_ from by rw [HE.out,hr];rfl
   obtain⟨Ta,xa,rfl⟩:=h1.iface;obtain⟨Tb,xb,rfl⟩:=h2.iface;obtain⟨Tc,xc,rfl⟩:=h3.iface;have hsl3:Sl M w2 TForm 1 v 3 [.iface Ta xa,.iface Tb xb,.iface Tc xc]:=by rw [HL.out] at hsl;exact hsl
   obtain⟨g,off,cap3,rfl,hcap3,hg3,k0,ks⟩:=(Sl.slOf (vs:=[.iface Ta xa,.iface Tb xb,.iface Tc xc]) hsl3).cell0;have k1:=ks 0 _ rfl;have k2:=ks 1 _ rfl;simp only [Nat.zero_add,List.length_cons,List.length_nil] at k1 k2 hcap3 ⊢;clear hg hsg hnl hr hrd hul hall h1 h2 h3 ks hsl hsl3 hxyz hul3;go_wp2_with fail
   go_quiet (fail)
   go_wp2_with fail
   go_ret2;exact⟨⟨HG.out.os,HG.out.tape,HG.out.output,HG.out.size,HG.out.block⟩,t,HT.out.1,HT.out.2,.inl ⟨_,_,HO.out,rfl,HX.out.1.below (belN _ _),HX.out.2.go (Stp.of_below (belN _ _)) (Sg.Le.refl _)⟩⟩
  ·have HT:Hid (SgR s t/\t.ns.length<=s.ns.length+(ts.map (tsz n)).sum):=⟨hsg,hnl⟩
   have HG:Hid (w.grownBy w2 (some mb)):=aM (aI HG1.out) hg;have HT2:Hid (t.pb=s.pb/\Rdr M w2 t tb mb ps):=⟨hpb,hrd⟩
   have HE2:Hid (o=none):=show _=_ from by rw [HE.out,hr];rfl
   clear hg hsg hnl hr hrd hpb;unfold aY;go_wp2_with fail;go_ret2;exact⟨HG.out,t,HT.out.1,HT.out.2,.inr ⟨HE2.out,HT2.out.1,HT2.out.2,_,_,rfl⟩⟩
 ·have HE:Hid (o=none):=show o=none from by
   rw [ho,if_neg (by simpa using h0)];rfl
  have hz:((vs.length:Int)!=3)=true:=by simp;omega
  clear hS hA hB hR h0 hvl HC HB1 hF ho;go_enter func151,ntmps151;go_wp2_with (go_at_call 149;refine(aS _ _).mono ?_;rintro e w' ⟨rfl,rfl⟩);go_ret2;exact⟨aI (bB w _),s,SgR.refl _,Nat.le_add_right _ _,.inr ⟨HE.out,rfl,HR.out.below (bB w _),_,_,rfl⟩⟩
def Eng(s:Sg):Prop:=(s.tq=330/\s.tc=522)\/(s.tq=465/\s.tc=477)
theorem Eng.le{s t:Sg}(h:Eng s)(l:Sg.Le s t):Eng t:=by unfold Eng at *;rw [l.tq,l.tc];exact h
theorem Tryz.sp_num(n:Int)(w:World):(Go.method 638 294 (.int .i64 n) "Spell").run prog w=.ok (354,.int .i64 n) w:=by kernel_rfl
theorem Tryz.sp_truth(b:Bool)(w:World):(Go.method 638 296 (.bool b) "Spell").run prog w=.ok (358,.bool b) w:=by kernel_rfl
theorem Tryz.sp_name(s:ByteArray)(w:World):(Go.method 638 297 (.string s) "Spell").run prog w=.ok (360,.string s) w:=by kernel_rfl
theorem Tryz.sp_empty(w:World):(Go.method 638 366 (.agg #[]) "Spell").run prog w=.ok (397,.agg #[]) w:=by kernel_rfl
theorem Tryz.sp_nothing(w:World):(Go.method 638 299 (.agg #[]) "Spell").run prog w=.ok (362,.agg #[]) w:=by kernel_rfl
theorem Tryz.sp_pair(b:Nat)(w:World):(Go.method 638 367 (.pointer (some ⟨b,0,none⟩)) "Spell").run prog w=.ok (399,.pointer (some ⟨b,0,none⟩)) w:=by kernel_rfl
theorem Tryz.sp_prim(n:Int)(w:World):(Go.method 638 246 (.int .i64 n) "Spell").run prog w=.ok (349,.int .i64 n) w:=by kernel_rfl
theorem Tryz.sp_callcc(w:World):(Go.method 638 243 (.agg #[]) "Spell").run prog w=.ok (346,.agg #[]) w:=by kernel_rfl
theorem dY(w:World)(a:Addr):(loadVar 331 a).run prog w=.ok (.agg #[]) w:=by kernel_rfl
theorem oM(w:World)(b:Nat)(cs:Array Value)(T:TypeId)(h:w.heap[b]?=some (.cells cs T (0,0)))(h1:prog.cellsOf T≠0)(h2:byteOfCell prog prog.depth T 0=some 0):(partAt ⟨b,0,none⟩ 0 0).run prog w=.ok ⟨b,0,none⟩ w:=by simp [partAt,byteOf,noView,viewAt,World.shape?,h,h1,h2]
theorem dX(n:Nat)(T E:TypeId)(w:World)(b:Nat)(cs:Array Value)(h:w.heap[b]?=some (.cells cs E (0,0)))
  (hm:((prog.info? T).bind fun i=>i.methods.find? fun m=>m.name == "Spell").map (fun m=>(m.path.toList,m.func))=some ([⟨E,0,true⟩],some (348,false)))
  (hf:(match prog.underlying E with | some (.struct fs)=>fs[0]?.map fun f=>(f.type,f.offset,f.byteOffset) | _=>none)=some (331,0,0))
  (h1:prog.cellsOf E≠0) (h2:byteOfCell prog prog.depth E 0=some 0) (hl:(loadVar 331 ⟨b,0,none⟩).run prog w=.ok (.agg #[]) w) :
  (Go.method (n+1) T (.pointer (some ⟨b,0,none⟩)) "Spell").run prog w=.ok (348,.agg #[]) w:=by
 obtain⟨m,hm1,hm2⟩:=Option.map_eq_some_iff.1 hm;obtain⟨i,hi,hm3⟩:=Option.bind_eq_some_iff.1 hm1;simp only [Prod.mk.injEq] at hm2
 cases hu:prog.underlying E with
 | none=>simp [hu] at hf
 | some d =>
  cases d with
  | struct fs =>
   simp only [hu] at hf;obtain⟨f,hf1,hf2⟩:=Option.map_eq_some_iff.1 hf;simp only [Prod.mk.injEq] at hf2;have hsz:(sizeOf 331).run prog w=.ok 0 w:=by kernel_rfl
   have hpa:=oM w b cs E h h1 h2;simp [Go.method,typeInfo,hi,hm3,hm2.1,hm2.2,follow,run_underlying hu,hf1,hf2.1,hf2.2.1,hf2.2.2,Place.get,asAddr,fieldPlace,hsz,hpa,receiverAt,run_underlying underlying331,hl]
  | _=>simp [hu] at hf
theorem Tryz.met_sq:((prog.info? 330).bind fun i=>i.methods.find? fun m=>m.name == "Spell").map (fun m=>(m.path.toList,m.func))=some ([⟨333,0,true⟩],some (348,false)):=by kernel_rfl
theorem Tryz.fld_sq:(match prog.underlying 333 with | some (.struct fs)=>fs[0]?.map fun f=>(f.type,f.offset,f.byteOffset) | _=>none)=some (331,0,0):=by kernel_rfl
theorem Tryz.cells_sq:prog.cellsOf 333≠0:=of_decide_eq_true (by kernel_rfl)
theorem Tryz.byte_sq:byteOfCell prog prog.depth 333 0=some 0:=by kernel_rfl
theorem Tryz.met_sc:((prog.info? 522).bind fun i=>i.methods.find? fun m=>m.name == "Spell").map (fun m=>(m.path.toList,m.func))=some ([⟨526,0,true⟩],some (348,false)):=by kernel_rfl
theorem Tryz.fld_sc:(match prog.underlying 526 with | some (.struct fs)=>fs[0]?.map fun f=>(f.type,f.offset,f.byteOffset) | _=>none)=some (331,0,0):=by kernel_rfl
theorem Tryz.cells_sc:prog.cellsOf 526≠0:=of_decide_eq_true (by kernel_rfl)
theorem Tryz.byte_sc:byteOfCell prog prog.depth 526 0=some 0:=by kernel_rfl
theorem Tryz.met_fq:((prog.info? 465).bind fun i=>i.methods.find? fun m=>m.name == "Spell").map (fun m=>(m.path.toList,m.func))=some ([⟨467,0,true⟩],some (348,false)):=by kernel_rfl
theorem Tryz.fld_fq:(match prog.underlying 467 with | some (.struct fs)=>fs[0]?.map fun f=>(f.type,f.offset,f.byteOffset) | _=>none)=some (331,0,0):=by kernel_rfl
theorem Tryz.cells_fq:prog.cellsOf 467≠0:=of_decide_eq_true (by kernel_rfl)
theorem Tryz.byte_fq:byteOfCell prog prog.depth 467 0=some 0:=by kernel_rfl
theorem Tryz.met_fc:((prog.info? 477).bind fun i=>i.methods.find? fun m=>m.name == "Spell").map (fun m=>(m.path.toList,m.func))=some ([⟨479,0,true⟩],some (348,false)):=by kernel_rfl
theorem Tryz.fld_fc:(match prog.underlying 479 with | some (.struct fs)=>fs[0]?.map fun f=>(f.type,f.offset,f.byteOffset) | _=>none)=some (331,0,0):=by kernel_rfl
theorem Tryz.cells_fc:prog.cellsOf 479≠0:=of_decide_eq_true (by kernel_rfl)
theorem Tryz.byte_fc:byteOfCell prog prog.depth 479 0=some 0:=by kernel_rfl
def tyE(T:TypeId):TypeId:=if T=330 then 333 else if T=522 then 526 else if T=465 then 467 else 479
theorem Tryz.sp_sq(w:World)(b:Nat)(cs:Array Value)(h:w.heap[b]?=some (.cells cs (tyE 330) (0,0))):(Go.method 638 330 (.pointer (some ⟨b,0,none⟩)) "Spell").run prog w=.ok (348,.agg #[]) w :=dX _ 330 333 w b cs h Tryz.met_sq Tryz.fld_sq Tryz.cells_sq Tryz.byte_sq (dY w _)
theorem Tryz.sp_sc(w:World)(b:Nat)(cs:Array Value)(h:w.heap[b]?=some (.cells cs (tyE 522) (0,0))):(Go.method 638 522 (.pointer (some ⟨b,0,none⟩)) "Spell").run prog w=.ok (348,.agg #[]) w :=dX _ 522 526 w b cs h Tryz.met_sc Tryz.fld_sc Tryz.cells_sc Tryz.byte_sc (dY w _)
theorem Tryz.sp_fq(w:World)(b:Nat)(cs:Array Value)(h:w.heap[b]?=some (.cells cs (tyE 465) (0,0))):(Go.method 638 465 (.pointer (some ⟨b,0,none⟩)) "Spell").run prog w=.ok (348,.agg #[]) w :=dX _ 465 467 w b cs h Tryz.met_fq Tryz.fld_fq Tryz.cells_fq Tryz.byte_fq (dY w _)
theorem Tryz.sp_fc(w:World)(b:Nat)(cs:Array Value)(h:w.heap[b]?=some (.cells cs (tyE 477) (0,0))):(Go.method 638 477 (.pointer (some ⟨b,0,none⟩)) "Spell").run prog w=.ok (348,.agg #[]) w :=dX _ 477 479 w b cs h Tryz.met_fc Tryz.fld_fc Tryz.cells_fc Tryz.byte_fc (dY w _)
theorem Eng.spq{s:Sg}(h:Eng s)(b:Nat)(w:World)(cs:Array Value)(hb:w.heap[b]?=some (.cells cs (tyE s.tq) (0,0))):(Go.method 638 s.tq (.pointer (some ⟨b,0,none⟩)) "Spell").run prog w=.ok (348,.agg #[]) w:=by
 rcases h with⟨h,_⟩ | ⟨h,_⟩<;>rw [h] at hb ⊢
 ·exact Tryz.sp_sq w b cs hb
 ·exact Tryz.sp_fq w b cs hb
theorem Eng.spc{s:Sg}(h:Eng s)(b:Nat)(w:World)(cs:Array Value)(hb:w.heap[b]?=some (.cells cs (tyE s.tc) (0,0))):(Go.method 638 s.tc (.pointer (some ⟨b,0,none⟩)) "Spell").run prog w=.ok (348,.agg #[]) w:=by
 rcases h with⟨_,h⟩ | ⟨_,h⟩<;>rw [h] at hb ⊢
 ·exact Tryz.sp_sc w b cs hb
 ·exact Tryz.sp_fc w b cs hb
theorem fC{T:TypeId}(v:Value)(w:World)(h:T=367\/T=294):(Instr.typeAssert (.iface T v) 161 T true).run prog w=.ok (.tuple #[v,.bool true]) w:=by rcases h with rfl | rfl<;>kernel_rfl
theorem Tryz.no_pair_296(v:Value)(w:World):(Instr.typeAssert (.iface 296 v) 161 367 true).run prog w=.ok (.tuple #[.pointer none,.bool false]) w:=by kernel_rfl
theorem Tryz.no_num_296(v:Value)(w:World):(Instr.typeAssert (.iface 296 v) 161 294 true).run prog w=.ok (.tuple #[.int .i64 0,.bool false]) w:=by kernel_rfl
theorem Tryz.no_pair_297(v:Value)(w:World):(Instr.typeAssert (.iface 297 v) 161 367 true).run prog w=.ok (.tuple #[.pointer none,.bool false]) w:=by kernel_rfl
theorem Tryz.no_num_297(v:Value)(w:World):(Instr.typeAssert (.iface 297 v) 161 294 true).run prog w=.ok (.tuple #[.int .i64 0,.bool false]) w:=by kernel_rfl
theorem Tryz.no_pair_366(v:Value)(w:World):(Instr.typeAssert (.iface 366 v) 161 367 true).run prog w=.ok (.tuple #[.pointer none,.bool false]) w:=by kernel_rfl
theorem Tryz.no_num_366(v:Value)(w:World):(Instr.typeAssert (.iface 366 v) 161 294 true).run prog w=.ok (.tuple #[.int .i64 0,.bool false]) w:=by kernel_rfl
theorem Tryz.no_pair_299(v:Value)(w:World):(Instr.typeAssert (.iface 299 v) 161 367 true).run prog w=.ok (.tuple #[.pointer none,.bool false]) w:=by kernel_rfl
theorem Tryz.no_num_299(v:Value)(w:World):(Instr.typeAssert (.iface 299 v) 161 294 true).run prog w=.ok (.tuple #[.int .i64 0,.bool false]) w:=by kernel_rfl
theorem Tryz.no_pair_246(v:Value)(w:World):(Instr.typeAssert (.iface 246 v) 161 367 true).run prog w=.ok (.tuple #[.pointer none,.bool false]) w:=by kernel_rfl
theorem Tryz.no_num_246(v:Value)(w:World):(Instr.typeAssert (.iface 246 v) 161 294 true).run prog w=.ok (.tuple #[.int .i64 0,.bool false]) w:=by kernel_rfl
theorem Tryz.no_pair_243(v:Value)(w:World):(Instr.typeAssert (.iface 243 v) 161 367 true).run prog w=.ok (.tuple #[.pointer none,.bool false]) w:=by kernel_rfl
theorem Tryz.no_num_243(v:Value)(w:World):(Instr.typeAssert (.iface 243 v) 161 294 true).run prog w=.ok (.tuple #[.int .i64 0,.bool false]) w:=by kernel_rfl
theorem Tryz.no_pair_330(v:Value)(w:World):(Instr.typeAssert (.iface 330 v) 161 367 true).run prog w=.ok (.tuple #[.pointer none,.bool false]) w:=by kernel_rfl
theorem Tryz.no_num_330(v:Value)(w:World):(Instr.typeAssert (.iface 330 v) 161 294 true).run prog w=.ok (.tuple #[.int .i64 0,.bool false]) w:=by kernel_rfl
theorem Tryz.no_pair_522(v:Value)(w:World):(Instr.typeAssert (.iface 522 v) 161 367 true).run prog w=.ok (.tuple #[.pointer none,.bool false]) w:=by kernel_rfl
theorem Tryz.no_num_522(v:Value)(w:World):(Instr.typeAssert (.iface 522 v) 161 294 true).run prog w=.ok (.tuple #[.int .i64 0,.bool false]) w:=by kernel_rfl
theorem Tryz.no_pair_465(v:Value)(w:World):(Instr.typeAssert (.iface 465 v) 161 367 true).run prog w=.ok (.tuple #[.pointer none,.bool false]) w:=by kernel_rfl
theorem Tryz.no_num_465(v:Value)(w:World):(Instr.typeAssert (.iface 465 v) 161 294 true).run prog w=.ok (.tuple #[.int .i64 0,.bool false]) w:=by kernel_rfl
theorem Tryz.no_pair_477(v:Value)(w:World):(Instr.typeAssert (.iface 477 v) 161 367 true).run prog w=.ok (.tuple #[.pointer none,.bool false]) w:=by kernel_rfl
theorem Tryz.no_num_477(v:Value)(w:World):(Instr.typeAssert (.iface 477 v) 161 294 true).run prog w=.ok (.tuple #[.int .i64 0,.bool false]) w:=by kernel_rfl
theorem Tryz.no_pair_n(v:Value)(w:World):(Instr.typeAssert (.iface 294 v) 161 367 true).run prog w=.ok (.tuple #[.pointer none,.bool false]) w:=by kernel_rfl
theorem Tryz.no_num_p(v:Value)(w:World):(Instr.typeAssert (.iface 367 v) 161 294 true).run prog w=.ok (.tuple #[.int .i64 0,.bool false]) w:=by kernel_rfl
theorem RV.asPair{s:Sg}{p:PV}(h:RV s v p)(he:Eng s):(∃k b,p=.pair k/\s.pb[k]?=some b/\v=.iface 367 (.pointer (some ⟨b,0,none⟩))) \/
  ((∀k,p≠.pair k)/\∃T x,v=.iface T x/\∀w,(Instr.typeAssert (.iface T x) 161 367 true).run prog w=.ok (.tuple #[.pointer none,.bool false]) w):=by
 cases h with
 | pair i b h=>exact .inl ⟨i,b,rfl,h,rfl⟩
 | num n=>exact .inr ⟨fun k e=>(by cases e),_,_,rfl,Tryz.no_pair_n _⟩
 | truth b=>exact .inr ⟨fun k e=>(by cases e),_,_,rfl,Tryz.no_pair_296 _⟩
 | name t=>exact .inr ⟨fun k e=>(by cases e),_,_,rfl,Tryz.no_pair_297 _⟩
 | empty=>exact .inr ⟨fun k e=>(by cases e),_,_,rfl,Tryz.no_pair_366 _⟩
 | nothing=>exact .inr ⟨fun k e=>(by cases e),_,_,rfl,Tryz.no_pair_299 _⟩
 | proc i b h =>
  refine .inr ⟨fun k e=>(by cases e),_,_,rfl,fun w=>?_⟩;rcases he with⟨e,_⟩ | ⟨e,_⟩<;>rw [e]
  ·exact Tryz.no_pair_330 _ w
  ·exact Tryz.no_pair_465 _ w
 | cont i b h =>
  refine .inr ⟨fun k e=>(by cases e),_,_,rfl,fun w=>?_⟩;rcases he with⟨_,e⟩ | ⟨_,e⟩<;>rw [e]
  ·exact Tryz.no_pair_522 _ w
  ·exact Tryz.no_pair_477 _ w
 | prim k t h hk=>exact .inr ⟨fun k e=>(by cases e),_,_,rfl,Tryz.no_pair_246 _⟩
 | callcc=>exact .inr ⟨fun k e=>(by cases e),_,_,rfl,Tryz.no_pair_243 _⟩
theorem RV.asNum{s:Sg}{p:PV}(h:RV s v p)(he:Eng s):(∃n,p=.num n/\v=.iface 294 (.int .i64 n)) \/
  ((∀k,p≠.num k)/\∃T x,v=.iface T x/\∀w,(Instr.typeAssert (.iface T x) 161 294 true).run prog w=.ok (.tuple #[.int .i64 0,.bool false]) w):=by
 cases h with
 | num n=>exact .inl ⟨n,rfl,rfl⟩
 | pair i b h=>exact .inr ⟨fun k e=>(by cases e),_,_,rfl,Tryz.no_num_p _⟩
 | truth b=>exact .inr ⟨fun k e=>(by cases e),_,_,rfl,Tryz.no_num_296 _⟩
 | name t=>exact .inr ⟨fun k e=>(by cases e),_,_,rfl,Tryz.no_num_297 _⟩
 | empty=>exact .inr ⟨fun k e=>(by cases e),_,_,rfl,Tryz.no_num_366 _⟩
 | nothing=>exact .inr ⟨fun k e=>(by cases e),_,_,rfl,Tryz.no_num_299 _⟩
 | proc i b h =>
  refine .inr ⟨fun k e=>(by cases e),_,_,rfl,fun w=>?_⟩;rcases he with⟨e,_⟩ | ⟨e,_⟩<;>rw [e]
  ·exact Tryz.no_num_330 _ w
  ·exact Tryz.no_num_465 _ w
 | cont i b h =>
  refine .inr ⟨fun k e=>(by cases e),_,_,rfl,fun w=>?_⟩;rcases he with⟨_,e⟩ | ⟨_,e⟩<;>rw [e]
  ·exact Tryz.no_num_522 _ w
  ·exact Tryz.no_num_477 _ w
 | prim k t h hk=>exact .inr ⟨fun k e=>(by cases e),_,_,rfl,Tryz.no_num_246 _⟩
 | callcc=>exact .inr ⟨fun k e=>(by cases e),_,_,rfl,Tryz.no_num_243 _⟩
theorem bD(w:World){T U:TypeId}(h:T≠U)(x y:Value):(binOp .eql 161 (.iface T x) (.iface U y)).run prog w=.ok (.bool false) w:=by
 simp only [binOp];have hE:∀d,(Op.equalIn (d+1) 161 (.iface T x) (.iface U y)).run prog w=.ok false w:=fun d=>by simp [Op.equalIn,run_underlying underlying161,h]
 have hE2:(Op.equal 161 (.iface T x) (.iface U y)).run prog w=.ok false w:=hE 9999;simp [hE2]
theorem neq_of{w:World}{T U:TypeId}{x y:Value}{b:Bool}(h:(binOp .eql 161 (.iface T x) (.iface U y)).run prog w=.ok (.bool b) w):(binOp .neq 161 (.iface T x) (.iface U y)).run prog w=.ok (.bool (!b)) w:=by
 simp only [binOp] at h ⊢
 cases hr:(Op.equal 161 (.iface T x) (.iface U y)).run prog w with
 | ok c w1 =>simp only [Sem.run_bind,hr,Result.andThen_ok,Sem.run_pure,Result.ok.injEq,Value.bool.injEq] at h;obtain⟨rfl,rfl⟩:=h;simp only [Sem.run_bind,hr,Result.andThen_ok,Sem.run_pure]
 | _=>simp [hr] at h
theorem Tryz.eq_truth(a b:Bool)(w:World):(binOp .eql 161 (.iface 296 (.bool a)) (.iface 296 (.bool b))).run prog w=.ok (.bool (a==b)) w:=by kernel_rfl
theorem Tryz.eq_num(a b:Int)(w:World):(binOp .eql 161 (.iface 294 (.int .i64 a)) (.iface 294 (.int .i64 b))).run prog w=.ok (.bool (a==b)) w:=by kernel_rfl
theorem Tryz.eq_prim(a b:Int)(w:World):(binOp .eql 161 (.iface 246 (.int .i64 a)) (.iface 246 (.int .i64 b))).run prog w=.ok (.bool (a==b)) w:=by kernel_rfl
theorem Tryz.eq_name(a b:ByteArray)(w:World):(binOp .eql 161 (.iface 297 (.string a)) (.iface 297 (.string b))).run prog w=.ok (.bool (a==b)) w:=by kernel_rfl
theorem Tryz.eq_empty(w:World):(binOp .eql 161 (.iface 366 (.agg #[])) (.iface 366 (.agg #[]))).run prog w=.ok (.bool true) w:=by kernel_rfl
theorem Tryz.eq_nothing(w:World):(binOp .eql 161 (.iface 299 (.agg #[])) (.iface 299 (.agg #[]))).run prog w=.ok (.bool true) w:=by kernel_rfl
theorem Tryz.eq_callcc(w:World):(binOp .eql 161 (.iface 243 (.agg #[])) (.iface 243 (.agg #[]))).run prog w=.ok (.bool true) w:=by kernel_rfl
theorem RV.eqEmpty{s:Sg}{p:PV}(h:RV s v p)(he:Eng s)(w:World):(binOp .eql 161 v (.iface 366 (.agg #[]))).run prog w=.ok (.bool (decide (p=.empty))) w:=by
 cases h with
 | empty=>exact Tryz.eq_empty w
 | proc i b h=>rw [bD w (by rcases he with⟨e,_⟩ | ⟨e,_⟩<;>rw [e]<;>decide)];simp
 | cont i b h=>rw [bD w (by rcases he with⟨_,e⟩ | ⟨_,e⟩<;>rw [e]<;>decide)];simp
 | _=>rw [bD w (by decide)];simp
theorem RV.eqFalse{s:Sg}{p:PV}(h:RV s v p)(he:Eng s)(w:World):(binOp .eql 161 v (.iface 296 (.bool false))).run prog w=.ok (.bool (decide (p=.truth false))) w:=by
 cases h with
 | truth b=>rw [Tryz.eq_truth];cases b<;>rfl
 | proc i b h=>rw [bD w (by rcases he with⟨e,_⟩ | ⟨e,_⟩<;>rw [e]<;>decide)];simp
 | cont i b h=>rw [bD w (by rcases he with⟨_,e⟩ | ⟨_,e⟩<;>rw [e]<;>decide)];simp
 | _=>rw [bD w (by decide)];simp
end
end Go.Proofs.YtkgbdddkcjpgfaaGreatDoor
