/-
 Contracts that the proof rests on.
-/
import Derived.Test.YtaadmpiphnfllaaGreatDoorYAae
namespace Go.Proofs.YtaadmpiphnfllaaGreatDoor
set_option maxHeartbeats 1000000
open Go.RowKit
set_option linter.unusedVariables false
theorem guess_le{P top r2 R' high next v' D:Nat}(hD:D < 4294967296)(hh:0 < high)(hv:v' < P)(hx:D*(high*4294967296+next)≤top*4294967296+r2):
  D≤(P*(top*4294967296+r2)+R') / (P*(high*4294967296+next)+v')+1:=by
 have hP:0 < P:=by omega
 have hV:0 < P*(high*4294967296+next)+v':=by
  have:0 < P*(high*4294967296+next):=Nat.mul_pos hP (by omega)
  omega
 have h1:D*(P*(high*4294967296+next)+v') < (P*(top*4294967296+r2)+R')+(P*(high*4294967296+next)+v'):=by
  have a1:D*(P*(high*4294967296+next))≤P*(top*4294967296+r2):=by
   rw [Nat.mul_left_comm];exact Nat.mul_le_mul_left P hx
  have a2:D*v'≤4294967295*P:=Nat.mul_le_mul (by omega) (by omega)
  have a3:P*4294967296≤P*(high*4294967296+next):=Nat.mul_le_mul_left P (by omega)
  rw [Nat.mul_add]
  omega
 have h2:(D-1)*(P*(high*4294967296+next)+v')≤P*(top*4294967296+r2)+R':=by
  rw [Nat.sub_mul,Nat.one_mul]
  omega
 have h3:=(Nat.le_div_iff_mul_le hV).2 h2
 omega
theorem guess_ge{P top r2 R' high next v' q:Nat}(hR:R' < P)(hq:q*(P*(high*4294967296+next)+v')≤P*(top*4294967296+r2)+R'):q*(high*4294967296+next)≤top*4294967296+r2:=by
 have a1:P*(q*(high*4294967296+next))≤q*(P*(high*4294967296+next)+v'):=by
  rw [Nat.mul_add q (P*(high*4294967296+next)) v',Nat.mul_left_comm q P]
  exact Nat.le_add_right _ _
 have a2:P*(q*(high*4294967296+next)) < P*(top*4294967296+r2+1):=by
  rw [Nat.mul_add P (top*4294967296+r2)]
  omega
 have:=Nat.lt_of_mul_lt_mul_left a2
 omega
theorem guess_top{top r2 high next q:Nat}(h2:r2 < 4294967296)(h:q*(high*4294967296+next)≤top*4294967296+r2):q*high≤top:=by
 have a:q*high*4294967296≤q*(high*4294967296+next):=by
  rw [Nat.mul_add,Nat.mul_assoc];exact Nat.le_add_right _ _
 have b:q*high*4294967296 < (top+1)*4294967296:=by omega
 have:=Nat.lt_of_mul_lt_mul_right b
 omega
theorem top3{rs:List Nat}{n:Nat}(hn:2≤n)(hl:rs.length=n+1):val rs=4294967296^(n-2)*((rs.getD n 0*4294967296+rs.getD (n-1) 0)*4294967296+rs.getD (n-2) 0)+val (rs.take (n-2)):=by
 rw [val_take_drop rs (k:=n-2) (by omega),val_drop (by omega),show n-2+1=n-1 by omega,val_drop (by omega),show n-1+1=n by omega,val_drop (by omega),List.drop_eq_nil_of_le (by omega),val_nil,Nat.add_comm]
 congr 2
 omega
theorem top2{ds:List Nat}{n:Nat}(hn:2≤n)(hl:ds.length=n):val ds=4294967296^(n-2)*(ds.getD (n-1) 0*4294967296+ds.getD (n-2) 0)+val (ds.take (n-2)):=by
 rw [val_take_drop ds (k:=n-2) (by omega),val_drop (by omega),show n-2+1=n-1 by omega,val_drop (by omega),List.drop_eq_nil_of_le (by omega),val_nil,Nat.add_comm]
 congr 2
 omega
def GuessInv (q top high:Nat)(D lf:Nat):Prop:=q≤D∧D < 4294967296∧lf+D*high=top
theorem guess_start{q top high:Nat}(hh:0 < high)(hq:q < 4294967296)(hqt:q*high≤top):GuessInv q top high (min (top/high) 4294967295) (top-min (top/high) 4294967295*high):=by
 have h1:=(Nat.le_div_iff_mul_le hh).2 hqt
 have h2:min (top/high) 4294967295*high≤top:=by
  have:=Nat.mul_le_mul_right high (Nat.min_le_left (top/high) 4294967295)
  have:=Nat.div_mul_le_self top high
  omega
 exact⟨by omega,by omega,by omega⟩
theorem guess_down{q top r2 high next D lf:Nat}(h:GuessInv q top high D lf)(hqq:q*(high*4294967296+next)≤top*4294967296+r2)(hgt:lf*4294967296+r2 < D*next):GuessInv q top high (D-1) (lf+high)∧0 < D:=by
 obtain⟨h1,h2,h3⟩:=h
 have hD:0 < D:=by
  rcases Nat.eq_zero_or_pos D with e | e
  ·subst e;omega
  ·exact e
 have hne:q≠D:=by
  rintro rfl;rw [Nat.mul_add,←Nat.mul_assoc]at hqq;rw [←h3]at hqq
  omega
 refine⟨⟨by omega,by omega,?_⟩,hD⟩
 obtain⟨d,rfl⟩:∃d,D=d+1:=⟨D-1,by omega⟩
 rw [Nat.add_sub_cancel];rw [Nat.add_mul,Nat.one_mul]at h3
 omega
theorem guess_end{q top r2 high next D lf:Nat}(h:GuessInv q top high D lf)(hle:D*next≤lf*4294967296+r2):D*(high*4294967296+next)≤top*4294967296+r2:=by
 obtain⟨_,_,h3⟩:=h;rw [Nat.mul_add,←Nat.mul_assoc,←h3]
 omega
theorem guess_end_big{q top r2 high next D lf:Nat}(h:GuessInv q top high D lf)(hn:next < 4294967296)(hb:4294967296≤lf):D*(high*4294967296+next)≤top*4294967296+r2:=by
 apply guess_end h
 have:=Nat.mul_le_mul (show D≤4294967295 by have:=h.2.1;omega) (show next≤4294967295 by omega)
 omega
theorem guess_nums{a b high:Nat}(ha:a < 4294967296)(hb:b < 4294967296)(hh:0 < high):
  ∃top d0 D p lf:Nat,Hid (top=a*4294967296+b)∧Hid (D=min (top/high) 4294967295)∧Hid (lf=top-D*high)∧bits BinOp.or IntKind.u64 ((a:Int)*4294967296) (b:Int)=top∧(top:Int) /high=d0∧IntKind.u64.wrap (d0:Int)=d0∧
   (if (4294967295:Int) < d0 then (4294967295:Int)else d0)=D∧IntKind.u64.wrap ((D:Int)*high)=p∧IntKind.u64.wrap ((top:Int)-p)=lf:=by
 have hD:min ((a*4294967296+b) /high) 4294967295*high≤a*4294967296+b:=by
  have:=Nat.mul_le_mul_right high (Nat.min_le_left ((a*4294967296+b) /high) 4294967295)
  have:=Nat.div_mul_le_self (a*4294967296+b) high
  omega
 refine⟨a*4294967296+b,(a*4294967296+b) /high,min ((a*4294967296+b) /high) 4294967295,min ((a*4294967296+b) /high) 4294967295*high,a*4294967296+b-min ((a*4294967296+b) /high) 4294967295*high,rfl,rfl,rfl,?_,?_,?_,?_,?_,?_⟩
 ·have:=or_join a b ha hb
  rw [this];simp
 ·simp
 ·exact wrap_u64_nat _ (Nat.lt_of_le_of_lt (Nat.div_le_self _ _) (by omega))
 ·split <;> omega
 ·have:=wrap_u64_nat (min ((a*4294967296+b) /high) 4294967295*high) (by omega)
  simpa using this
 ·have:=wrap_u64_nat (a*4294967296+b-min ((a*4294967296+b) /high) 4294967295*high) (by omega)
  rw [Int.natCast_sub hD]at this;exact this.trans (by omega)
def GuessPost (w:World)(q:Nat)(e:Ending)(w':World):Prop:=∃D m:Nat,e= .returned (.int .u32 (D:Int))∧w'=w.drewN m∧q≤D∧D≤q+1∧D < 4294967296
theorem guess_any (w:World)(b1 b2:Nat)(A1 A2:Option Addr)(n c1 c2:Nat)(rs ds:List Nat)(h1:Sl w b1 A1 (n+1) c1 rs)(h2:Sl w b2 A2 n c2 ds)(hn:2≤n)(hh:ds.getD (n-1) 0≠0)(hlt:val rs < val ds*4294967296):
  Calls Tryz.prog 231 #[.slice A1 (n+1) c1,.slice A2 n c2] w (GuessPost w (val rs/val ds)):=by
 have hbig:=h1.big;have T3:=top3 hn h1.len;have T2:=top2 hn h2.len;have B1:=val_lt (h1.lim.take (n-2));have B2:=val_lt (h2.lim.take (n-2));rw [List.length_take,h1.len,Nat.min_eq_left (by omega)]at B1;rw [List.length_take,h2.len,Nat.min_eq_left (by omega)]at B2;have bA:=h1.lim.getD n;have bB:=h1.lim.getD (n-1);have bC:=h1.lim.getD (n-2);have bH:=h2.lim.getD (n-1)
 have bN:=h2.lim.getD (n-2);obtain⟨o1,rfl,k1⟩:=h1.at (by omega);obtain⟨o2,rfl,k2⟩:=h2.at (by omega);have g1:=k1 n (by omega);have g2:=k1 (n-1) (by omega);have g3:=k1 (n-2) (by omega);have g4:=k2 (n-1) (by omega);have g5:=k2 (n-2) (by omega)
 have hv0:0 < val ds:=by
  rw [T2]
  have:0 < 4294967296^(n-2)*(ds.getD (n-1) 0*4294967296+ds.getD (n-2) 0):=Nat.mul_pos (Nat.pow_pos (by decide)) (by omega)
  omega
 have hq:val rs/val ds < 4294967296:=by
  rw [Nat.div_lt_iff_lt_mul hv0,Nat.mul_comm];exact hlt
 have hqm:val rs/val ds*val ds≤val rs:=Nat.div_mul_le_self _ _
 clear k1 k2 h1 h2 hlt hv0
 revert T3 T2 bA bB bC bH bN g1 g2 g3 g4 g5 hh hqm hq B1 B2
 generalize rs.getD n 0=a;generalize rs.getD (n-1) 0=b;generalize rs.getD (n-2) 0=r2;generalize ds.getD (n-1) 0=high
 generalize ds.getD (n-2) 0=next
 generalize val (rs.take (n-2))=R';generalize val (ds.take (n-2))=v';generalize 4294967296^(n-2)=P;generalize val rs=R;generalize val ds=V
 intro hh T3 T2 B1 B2 bA bB bC bH bN g1 g2 g3 g4 g5 hq hqm
 subst T3;subst T2;have hqq:=guess_ge B1 hqm
 have HLE:=Lib.hid (fun D hD hx=>guess_le (P:=P) (top:=a*4294967296+b) (r2:=r2) (next:=next) (R':=R') (D:=D) hD (Nat.pos_of_ne_zero hh) B2 hx)
 clear hqm B1 B2
 revert hq hqq HLE
 generalize (P*((a*4294967296+b)*4294967296+r2)+R') / (P*(high*4294967296+next)+v')=q
 intro hq hqq HLE
 obtain⟨top,d0,D,p,lf,E1,E2,E3,e1,e2,e2',e3,e4,e5⟩:=guess_nums bA bB (Nat.pos_of_ne_zero hh);rw [←E1.out]at hqq HLE
 have HI:Hid (GuessInv q top high D lf):=by
  rw [E3.out,E2.out];exact guess_start (Nat.pos_of_ne_zero hh) hq (guess_top bC hqq)
 have HQQ:=Lib.hid hqq;clear hqq E1 E2 E3 hq
 have hhp:((high:Int)==0)=false:=by simpa using hh
 have i1:((n:Int)-1).toNat=n-1:=by omega
 have i2:((n:Int)-2).toNat=n-2:=by omega
 go_enter Tryz.func231,Tryz.ntmps231
 go_wp2
 go_quiet (fail)
 go_wp2
 go_quiet (fail)
 go_wp2;clear e1 e2 e2' e3 e4 e5 g1 g2 g4 g5
 go_loop [9,10] (fun u v=>∃D lf:Nat,u= .int .u64 D∧v= .int .u64 lf∧GuessInv q top high D lf) (fun u _=>(intOf u).toNat)
 case atStart=>exact ⟨D,lf,rfl,rfl,HI.out⟩
 case round=>
  clear HI;obtain⟨D,lf,rfl,rfl,hI⟩:=hrel;have bD:=hI.2.1;have HI:=Lib.hid hI;clear hI
  by_cases hb:lf < 4294967296
  ·obtain⟨p,ep⟩:∃p:Nat,IntKind.u64.wrap ((D:Int)*next)=p∧Hid (p=D*next):=by
    have:=prod_lt bD bN
    exact⟨D*next,by have:=wrap_u64_nat (D*next) (by omega);simpa using this,rfl⟩
   obtain⟨ep,HP⟩:=ep;obtain⟨s,es,HS⟩:∃s:Nat,bits BinOp.or IntKind.u64 ((lf:Int)*4294967296) (r2:Int)=s∧Hid (s=lf*4294967296+r2):=⟨lf*4294967296+r2,by rw [or_join lf r2 hb bC];simp,rfl⟩
   have hb':((lf:Int) /4294967296==0)=true:=by simp;omega
   by_cases hgt:s < p
   ·have hd:=guess_down HI.out HQQ.out (by have:=HP.out;have:=HS.out;omega);have hD0:=hd.2;have HD:=Lib.hid hd.1;clear hd HI;go_wp2
    go_round
    case rel=>exact ⟨D-1,lf+high,by go_num,by go_num,HD.out⟩
    case measure=>simp [intOf];omega
   ·have HE:=Lib.hid (HLE.out D bD (guess_end HI.out (by have:=HP.out;have:=HS.out;omega)));have HG:=Lib.hid HI.out.1;clear HI;go_wp2
    go_ret
    exact⟨D,_,ret_int (by omega),by first | rfl | rw [World.drewN_drewN],HG.out,HE.out,bD⟩
  ·have hb':((lf:Int) /4294967296==0)=false:=by simp;omega
   have HE:=Lib.hid (HLE.out D bD (guess_end_big HI.out bN (by omega)));have HG:=Lib.hid HI.out.1;clear HI;go_wp2
   go_ret
   exact⟨D,_,ret_int (by omega),by first | rfl | rw [World.drewN_drewN],HG.out,HE.out,bD⟩
theorem Turned.trans{w w1 w2:World}{g o:Nat}{l zs ys:List Nat}(h:Turned w g o l zs w1)(k:Turned w1 g o (mid l o zs) ys w2)(hl:o+zs.length≤l.length)(hz:ys.length=zs.length):Turned w g o l ys w2:=
 ⟨by have:=k.1;rwa [mid_mid hl hz]at this,grown_trans h.2.1 k.2.1,k.2.2⟩
def DigitPost (w:World)(g o n:Nat)(l:List Nat)(R V:Nat)(e:Ending)(w':World):Prop:=
 e= .returned (.int .u32 ((R/V:Nat):Int))∧∃zs,zs.length=n∧Turned w g o l zs w'∧val zs=R%V
theorem div_split (R V:Nat):R/V*V+R%V=R:=by rw [Nat.mul_comm];exact Nat.div_add_mod R V
theorem digit_exact{R V Q r z q P:Nat}(h1:Q*V+r=R)(h2:r < V)(hv:R+q*P=z+Q*V)(hz:z < P):q=0∧z=r:=by
 rcases Nat.eq_zero_or_pos q with e | e
 ·subst e;exact⟨rfl,by omega⟩
 ·have:=Nat.mul_le_mul_right P e
  omega
theorem digit_over{R V Q r z q P:Nat}(h1:Q*V+r=R)(h2:r < V)(hv:R+q*P=z+(Q+1)*V):0 < q:=by
 rw [Nat.add_mul,Nat.one_mul]at hv
 rcases Nat.eq_zero_or_pos q with e | e
 ·subst e;omega
 ·exact e
theorem digit_back{R V Q r z q P z2 cy:Nat}(h1:Q*V+r=R)(h2:r < V)(hv:R+q*P=z+(Q+1)*V)(hz:z < P)(hz2:z2 < P)(hVP:V < P)(hcy:cy≤1)(hv2:z2+cy*P=z+V):z2=r:=by
 have h0:=digit_over h1 h2 hv;rw [Nat.add_mul,Nat.one_mul]at hv
 have hq:q=1:=by
  rcases Nat.lt_or_ge q 2 with e | e
  ·omega
  ·have:=Nat.mul_le_mul_right P e
   omega
 subst hq
 rcases (by omega:cy=0∨cy=1)with e | e
 ·subst e;omega
 ·subst e;omega
theorem takeDigit_any (w:World)(g o n c1 b2 c2:Nat)(A2:Option Addr)(l ds:List Nat)(hg:Own w g l)(hl:Lim l)(hn1:o+(n+1)≤l.length)(hbl:l.length≤1099511627776)(hc1:n+1≤c1)(h2:Sl w b2 A2 n c2 ds)(hne:b2≠g)(hn:2≤n)(hh:ds.getD (n-1) 0≠0)
  (hlt:val ((l.drop o).take (n+1)) < val ds*4294967296):
  Calls Tryz.prog 215 #[.slice (some ⟨g,o,none⟩) (n+1) c1,.slice A2 n c2] w (DigitPost w g o (n+1) l (val ((l.drop o).take (n+1))) (val ds)):=by
 have h1:=hg.sl hl hn1 hc1 hbl;have HG:=Lib.hid (guess_any w g b2 _ A2 n c1 c2 _ ds h1 h2 hn hh hlt)
 have hV:0 < val ds:=by omega
 have hVP:val ds < 4294967296^(n+1):=by
  have:=val_lt h2.lim
  rw [h2.len]at this;exact Nat.lt_trans this (Nat.pow_lt_pow_right (by decide) (by omega))
 have HK:Hid (∀(m D:Nat),D < 4294967296→Calls Tryz.prog 181 #[.slice (some ⟨g,o,none⟩) (n+1) c1,.slice A2 n c2,.int .u32 (D:Int)] (w.drewN m) (TakePost (w.drewN m) g o (n+1) l ds D)):=
  fun m D hD=>takeFrom_any (w.drewN m) g o (n+1) c1 b2 n c2 D A2 l ds hg hl hn1 hbl h2 (fun _=>hne) (by omega) hD
 have HA:Hid (∀(w1:World) (zs:List Nat),zs.length=n+1→Turned w g o l zs w1→Calls Tryz.prog 180 #[.slice (some ⟨g,o,none⟩) (n+1) c1,.slice A2 n c2] w1 (AddPost w1 g o (n+1) (mid l o zs) ds)):=
  fun w1 zs hz ht=>addTo_any w1 g o (n+1) c1 b2 n c2 A2 (mid l o zs) ds ht.1 (mid_lim hl ht.2.2) (by rw [mid_length (by omega)];omega) (by rw [mid_length (by omega)];omega) (h2.grown ht.2.1 (fun _=>by simpa using hne)) (fun _=>hne) (by omega)
 have HT:Hid (∀(m:Nat) (zs:List Nat) (w1:World),Turned (w.drewN m) g o l zs w1→Turned w g o l zs w1):=fun m zs w1 ht=>⟨ht.1,⟨ht.2.1.os,ht.2.1.tape,ht.2.1.output,ht.2.1.size,ht.2.1.block⟩,ht.2.2⟩
 clear h1 h2 hlt hc1 hg
 revert HG
 generalize hR:val ((l.drop o).take (n+1))=R;have HR:=Lib.hid hR;clear hR
 intro HG
 have hr:=Nat.mod_lt R hV;have hs:=div_split R (val ds)
 have HP:Hid (∀e w',(e= .returned (.int .u32 ((R/val ds:Nat):Int))∧∃zs,zs.length=n+1∧Turned w g o l zs w'∧val zs=R%val ds)→DigitPost w g o (n+1) l R (val ds) e w'):=fun e w' h=>h
 revert HG hr hs HP
 generalize R/val ds=Q;generalize R%val ds=r
 intro HG hr hs HP
 have HS:=Lib.hid hs;clear hs
 go_enter Tryz.func215,Tryz.ntmps215
 go_wp2_with (go_at_call 231;((with_reducible refine HG.out.mono ?_);rintro e w1 ⟨D,m,rfl,rfl,hq1,hq2,hDb⟩))
 clear HG;refine (HK.out m D hDb).mono ?_;rintro e w2 ⟨q,rfl,zs,hz,ht,hv⟩;rw [HR.out]at hv;have ht2:=HT.out m zs w2 ht;have hzl:=val_lt ht.2.2;rw [hz]at hzl;clear ht HT HK
 by_cases hD:D=Q
 ·subst hD;obtain⟨rfl,hz2⟩:=digit_exact HS.out hr hv hzl;have HZ2:=Lib.hid hz2;clear hz2 hv hzl;go_wp2
  go_ret
  exact HP.out _ _ ⟨rfl,zs,hz,ht2,HZ2.out⟩
 ·obtain rfl:D=Q+1:=by omega
  have hq0:=digit_over HS.out hr hv
  have HB:=Lib.hid (fun z2 cy h3 h4 h5=>digit_back (z2:=z2) (cy:=cy) HS.out hr hv hzl h3 hVP h4 h5)
  clear hD hv hq1 hq2 hzl
  go_wp2_with fail
  refine (HA.out w2 zs hz ht2).mono ?_;rintro e w3 ⟨rfl,ys,cy,hy,ht3,hcy,hv3⟩;have hseg:=mid_seg (l:=l) (zs:=zs) (o:=o) (by omega);rw [hz]at hseg;rw [hseg]at hv3;have hyl:=val_lt ht3.2.2;rw [hy]at hyl;have HZ2:=Lib.hid (HB.out _ _ hyl hcy hv3);have HT3:=Lib.hid (ht2.trans ht3 (by omega) (by omega));clear hv3 hyl ht3 hseg HB hz;go_wp2
  go_ret
  exact HP.out _ _ ⟨by go_num,ys,hy,HT3.out,HZ2.out⟩
def RaiseInv (w:World)(g n sk lo:Nat)(xs:List Nat)(i:Nat)(wr:World):Prop:=
 ∃hs:List Nat,∃t:Nat,hs.length=i+sk∧Lim hs∧t < 2^lo∧Own wr g (hs ++[t]++List.replicate (n-i) 0)∧w.grownBy wr (some g)∧val (hs ++[t])=val (xs.take i)*2^(32*sk+lo)
theorem pow_split (sk lo:Nat):2^(32*sk+lo)=4294967296^sk*2^lo:=by rw [Nat.pow_add,Nat.pow_mul]
theorem lo_dvd{lo x:Nat}(hlo:lo < 32):x*2^lo%4294967296%2^lo=0:=by
 have e:4294967296=2^lo*2^(32-lo):=by rw [←Nat.pow_add,show lo+(32-lo)=32 by omega]
 rw [e,Nat.mod_mul_right_mod,Nat.mul_mod_left]
theorem lo_sum{lo x t:Nat}(hlo:lo < 32)(ht:t < 2^lo):t+x*2^lo%4294967296 < 4294967296:=by
 have e:4294967296=2^lo*2^(32-lo):=by rw [←Nat.pow_add,show lo+(32-lo)=32 by omega]
 have h1:x*2^lo%4294967296 < 4294967296:=Nat.mod_lt _ (by decide)
 have h2:=lo_dvd (x:=x) hlo;obtain⟨q,hq⟩:=Nat.dvd_of_mod_eq_zero h2;rw [hq]at h1⊢;rw [e]at h1
 have h3:q < 2^(32-lo):=Nat.lt_of_mul_lt_mul_left h1
 have h4:=Nat.mul_le_mul_left (2^lo) (show q+1≤2^(32-lo)from h3)
 rw [←e,Nat.mul_add,Nat.mul_one]at h4
 omega
theorem raise_nums{x t lo:Nat}(hlo:lo < 32)(ht:t < 2^lo)(hx:x < 4294967296):
  ∃p pl ph v:Nat,Hid (p=x*2^lo)∧Hid (pl=p%4294967296)∧Hid (ph=p/4294967296)∧Hid (v=t+pl)∧Hid (v < 4294967296)∧Hid (ph < 2^lo)∧IntKind.u64.wrap ((x:Int)*2^lo)=p∧(p:Int)%4294967296=pl∧
   (p:Int) /4294967296%4294967296=ph∧bits BinOp.or IntKind.u32 (t:Int) (pl:Int)=v:=by
 have hp:2^lo≤2147483648:=Nat.pow_le_pow_right (n:=2) (by decide) (show lo≤31 by omega)
 have hb:x*2^lo≤4294967295*2147483648:=Nat.mul_le_mul (by omega) hp
 have hl:=lo_sum (x:=x) hlo ht
 have hph:x*2^lo/4294967296 < 2^lo:=by
  rw [Nat.div_lt_iff_lt_mul (by decide),Nat.mul_comm];exact Nat.mul_lt_mul_of_pos_left hx (Nat.two_pow_pos lo)
 refine⟨x*2^lo,x*2^lo%4294967296,x*2^lo/4294967296,t+x*2^lo%4294967296,rfl,rfl,rfl,rfl,hl,hph,?_,by omega,by omega,?_⟩
 ·have:=wrap_u64_nat (x*2^lo) (by omega)
  simpa using this
 ·rw [u32_or_nat _ _ (by omega) (by omega),Nat.or_comm,nat_join lo _ _ (lo_dvd hlo) ht,Nat.add_comm]
theorem raise_step{w wr:World}{g n sk lo k x:Nat}{xs hs:List Nat}{t p pl ph v:Nat}(hk:k < n)(hl:xs.length=n)(hhs:hs.length=k+sk)(hsl:Lim hs)(hown:Own wr g (hs ++[t]++List.replicate (n-k) 0))(hgr:w.grownBy wr (some g))
  (hv:val (hs ++[t])=val (xs.take k)*2^(32*sk+lo)) (hx:xs.getD k 0=x) (hp:p=x*2^lo) (hpl:pl=p%4294967296) (hph:ph=p/4294967296) (hvv:v=t+pl) (hvb:v < 4294967296) (hpb:ph < 2^lo):
  RaiseInv w g n sk lo xs (k+1) ((wr.setCell ⟨g,k+sk,none⟩ (.int .u32 (v:Int))).setCell ⟨g,k+sk+1,none⟩ (.int .u32 (ph:Int))):=by
 refine⟨hs ++[v],ph,by simp;omega,hsl.append (Lim.cons hvb Lim.nil),hpb,?_,grown_set (grown_set hgr _) _,?_⟩
 ·have h1:=(hown.set (k+sk) v).set (k+sk+1) ph
  have e:((hs ++[t]++List.replicate (n-k) 0).set (k+sk) v).set (k+sk+1) ph=hs ++[v]++[ph]++List.replicate (n-(k+1)) 0:=by
   rw [List.append_assoc,List.set_append_right _ _ (by omega),List.set_append_right _ _ (by omega),hhs,Nat.sub_self,show k+sk+1-(k+sk)=1 by omega,show n-k=n-(k+1)+1 by omega,List.replicate_succ]
   simp
  rw [e]at h1;exact h1
 ·have e:=Nat.mod_add_div p 4294967296;rw [←hpl,←hph]at e;rw [val_take_succ (by omega),hx,pow_split]at *;rw [val_snoc]at hv⊢;rw [val_snoc,List.length_append,List.length_singleton,hhs,Nat.pow_succ];rw [hhs]at hv
  have e1:4294967296^(k+sk)*(pl+4294967296*ph)=4294967296^(k+sk)*(x*2^lo):=by rw [e,hp]
  rw [Nat.pow_add]at *;rw [hvv]
  grind
def RaisedPost (w:World)(n sk lo:Nat)(xs:List Nat)(e:Ending)(w':World):Prop:=
 ∃g l,e= .returned (.slice (some ⟨g,0,none⟩) (n+sk+1) (n+sk+1))∧w.heap.size≤g∧Own w' g l∧l.length=n+sk+1∧Lim l∧val l=val xs*2^(32*sk+lo)∧Below w.heap.size w w'
theorem raised_any (w:World)(b n c:Nat)(A:Option Addr)(xs:List Nat)(z:Int)(sk lo:Nat)(h:Sl w b A n c xs)(hz0:0≤z)(hq:z/32=(sk:Int))(hr:z%32=(lo:Int))(hlo:lo < 32)(hbig:n+sk+1≤1099511627776):
  Calls Tryz.prog 131 #[.slice A n c,.int .i64 z] w (RaisedPost w n sk lo xs):=by
 have H1:=Lib.hid h.len
 have hmk:=fun W=>run_make32' (n+sk+1) ((n:Int)+sk+1) (by omega) (by omega) W
 have hal:Below w.heap.size w (w.alloc (.cells (arr (List.replicate (n+sk+1) 0)) 81)):=(Below.refl _ _).alloc (Nat.le_refl _) _
 go_enter Tryz.func131,Tryz.ntmps131
 go_wp2;clear hmk
 go_loopw [22] (fun i wr=>∃k:Nat,k≤n∧i= .int .i64 k∧RaiseInv (w.alloc (.cells (arr (List.replicate (n+sk+1) 0)) 81)) w.heap.size n sk lo xs k wr) (fun i _=>n-(intOf i).toNat)
 case atStart=>
  refine⟨0,Nat.zero_le _,rfl,List.replicate sk 0,0,by simp,Lim.replicate _,Nat.two_pow_pos lo,?_,grown_refl _ _,by rw [val_snoc,val_zeros];simp [val]⟩
  have:=Own.new w (List.replicate (n+sk+1) 0)
  rwa [show n+sk+1=sk+1+(n-0) by omega,←List.replicate_append_replicate,←List.replicate_append_replicate]at this⊢
 case round=>
  obtain⟨k,hk,rfl,hI⟩:=hrel;have HI:=Lib.hid hI;clear hI
  by_cases hlt:k < n
  ·obtain⟨hs,t,hhs,hsl,ht,hown,hgr,hv⟩:=HI.out;have hbw:=grown_of_new hal hgr;obtain⟨o1,rfl,hc1⟩:=(h.below hbw).at (by omega);have hcell:=hc1 k hlt;have bx:=h.lim.getD k
   have hlen:(hs ++[t]++List.replicate (n-k) 0).length=n+sk+1:=by simp;omega
   have hcg:=hown.cell (i:=k+sk) (by omega)
   have e0:(hs ++[t]++List.replicate (n-k) 0).getD (k+sk) 0=t:=by
    rw [List.append_assoc,List.getD_eq_getElem?_getD,List.getElem?_append_right (by omega),hhs,Nat.sub_self];rfl
   rw [e0]at hcg;have hcf:=hown.frozen (k+sk);have hcg2:=hown.cell (i:=k+sk+1) (by omega);have hcf2:=hown.frozen (k+sk+1);obtain⟨q,hq2⟩:∃q,(hs ++[t]++List.replicate (n-k) 0).getD (k+sk+1) 0=q:=⟨_,rfl⟩;rw [hq2]at hcg2;obtain⟨p,pl,ph,v,E1,E2,E3,E4,E5,E6,e1,e2,e3,e4⟩:=raise_nums hlo ht bx;have HS:=Lib.hid (raise_step hlt H1.out hhs hsl hown hgr hv rfl E1.out E2.out E3.out E4.out E5.out E6.out)
   clear hc1 hv hown hgr hhs hsl hlen e0 E1 E2 E3 E4 E5 E6 ht hq2 HI
   revert hcell bx e1
   generalize xs.getD k 0=x
   intro hcell bx e1
   go_wp2
   go_roundw
   case rel=>exact ⟨k+1,by omega,by go_num,HS.out⟩
   case measure=>simp [intOf];omega
  ·have hkn:k=n:=by omega
   subst hkn;obtain⟨hs,t,hhs,hsl,ht,hown,hgr,hv⟩:=HI.out;rw [Nat.sub_self,List.replicate_zero,List.append_nil]at hown;rw [val_take_all (xs:=xs) (by rw [H1.out];omega)]at hv
   have ht':t < 4294967296:=Nat.lt_of_lt_of_le ht (Nat.pow_le_pow_right (n:=2) (by decide) (show lo≤32 by omega))
   have HP:Hid (RaisedPost w k sk lo xs (.returned (.slice (some ⟨w.heap.size,0,none⟩) (k+sk+1) (k+sk+1))) wr):=⟨w.heap.size,hs ++[t],rfl,Nat.le_refl _,hown,by simp;omega,hsl.append (Lim.cons ht' Lim.nil),hv,grown_of_new hal hgr⟩
   clear hown hgr hv hhs hsl ht ht' HI;go_wp2
   go_ret
   exact HP.out
theorem shr_limb{lo d0 d1 R:Nat}(hlo:lo < 32):(d0+4294967296*(d1+4294967296*R)) /2^lo%4294967296=(d0+4294967296*d1) /2^lo%4294967296:=by
 have e:4294967296=2^lo*2^(32-lo):=by rw [←Nat.pow_add,show lo+(32-lo)=32 by omega]
 have e1:d0+4294967296*(d1+4294967296*R)=d0+4294967296*d1+2^lo*(2^(32-lo)*R*4294967296):=by
  have:2^lo*(2^(32-lo)*R*4294967296)=4294967296*(4294967296*R):=by
   rw [←Nat.mul_assoc,←Nat.mul_assoc,←e,Nat.mul_comm (4294967296*R)]
  rw [this];omega
 rw [e1,Nat.add_mul_div_left _ _ (Nat.two_pow_pos lo),Nat.add_mul_mod_self_right]
def ShrInv (w:World)(g n sk lo:Nat)(xs:List Nat)(i:Nat)(wr:World):Prop:=
 ∃hs:List Nat,hs.length=i∧Lim hs∧Own wr g (hs ++List.replicate (n-i) 0)∧w.grownBy wr (some g)∧val hs=val (xs.drop sk) /2^lo%4294967296^i
theorem val_drop_div{xs:List Nat}(hl:Lim xs)(k:Nat):val (xs.drop k)=val xs/4294967296^k:=by
 rcases Nat.lt_or_ge xs.length k with h | h
 ·rw [List.drop_eq_nil_of_le (by omega),Nat.div_eq_of_lt]
  ·rfl
  ·exact Nat.lt_of_lt_of_le (val_lt hl) (Nat.pow_le_pow_right (by decide) (by omega))
 ·rw [val_take_drop xs h,Nat.add_mul_div_left _ _ (Nat.pow_pos (by decide)),Nat.div_eq_of_lt,Nat.zero_add]
  have:=val_lt (hl.take k)
  rwa [List.length_take,Nat.min_eq_left h]at this
theorem shr_step{w wr:World}{g n sk lo k d0 d1 v:Nat}{xs hs:List Nat}(hlo:lo < 32)(hl:Lim xs)(hn:xs.length=sk+n)(hk:k < n)(hhs:hs.length=k)(hsl:Lim hs)(hown:Own wr g (hs ++List.replicate (n-k) 0))(hgr:w.grownBy wr (some g))
  (hv:val hs=val (xs.drop sk) /2^lo%4294967296^k) (h0:xs.getD (k+sk) 0=d0) (h1:xs.getD (k+sk+1) 0=d1) (hv2:v=(d0+4294967296*d1) /2^lo%4294967296):
  ShrInv w g n sk lo xs (k+1) (wr.setCell ⟨g,k,none⟩ (.int .u32 (v:Int))):=by
 have bv:v < 4294967296:=by rw [hv2];exact Nat.mod_lt _ (by decide)
 refine⟨hs ++[v],by simp;omega,hsl.append (Lim.cons bv Lim.nil),?_,grown_set hgr _,?_⟩
 ·have h2:=hown.set k v
  have e:(hs ++List.replicate (n-k) 0).set k v=hs ++[v]++List.replicate (n-(k+1)) 0:=by
   rw [List.set_append_right _ _ (by omega),hhs,Nat.sub_self,show n-k=n-(k+1)+1 by omega,List.replicate_succ]
   simp
  rwa [e]at h2
 ·rw [val_snoc,hv,hhs,Nat.mod_pow_succ]
  congr 2
  rw [Nat.div_div_eq_div_mul,Nat.mul_comm (2^lo),←Nat.div_div_eq_div_mul,←val_drop_div (hl.drop sk),List.drop_drop,val_drop (by omega),show sk+k=k+sk by omega,h0,hv2]
  rcases Nat.lt_or_ge (k+sk+1) xs.length with h | h
  ·rw [val_drop h,h1,shr_limb hlo]
  ·rw [List.drop_eq_nil_of_le h,show d1=0 by rw [←h1];exact getD_beyond h]
   rfl
theorem shr_nums{d0 d1 lo:Nat}(h0:d0 < 4294967296)(h1:d1 < 4294967296):
  ∃p v u:Nat,Hid (v=(d0+4294967296*d1) /2^lo%4294967296)∧bits BinOp.or IntKind.u64 (d0:Int) ((d1:Int)*4294967296)=p∧(p:Int) /2^lo=u∧(u:Int)%4294967296=v:=by
 refine⟨d0+4294967296*d1,(d0+4294967296*d1) /2^lo%4294967296,(d0+4294967296*d1) /2^lo,rfl,?_,?_,?_⟩
 ·have:=u64_or_nat d0 (d1*4294967296) (by omega) (by omega)
  rw [Nat.or_comm,nat_join 32 _ _ (by omega) h0]at this
  have e:d1*4294967296+d0=d0+4294967296*d1:=by omega
  rw [e]at this
  simpa using this
 ·simp
 ·simp
theorem shr_core (w:World)(b n c:Nat)(A:Option Addr)(xs:List Nat)(z:Int)(sk lo:Nat)(h:Sl w b A (sk+n) c xs)(hz0:1≤z)(hq:z/32=(sk:Int))(hr:z%32=(lo:Int))(hlo:lo < 32)(hn:0 < n):
  Calls Tryz.prog 216 #[.slice A (sk+n) c,.int .i64 z] w (Ret1 w (limbs (val (xs.drop sk) /2^lo))):=by
 have H1:=Lib.hid h.len;have hbig:=h.big
 have hmk:=fun W=>run_make32' n ((sk:Int)+n-sk) (by omega) (by omega) W
 have hal:Below w.heap.size w (w.alloc (.cells (arr (List.replicate n 0)) 81)):=(Below.refl _ _).alloc (Nat.le_refl _) _
 go_enter Tryz.func216,Tryz.ntmps216
 go_wp2;clear hmk
 go_loopw [29] (fun i wr=>∃k:Nat,k≤n∧i= .int .i64 k∧ShrInv (w.alloc (.cells (arr (List.replicate n 0)) 81)) w.heap.size n sk lo xs k wr) (fun i _=>n-(intOf i).toNat)
 case atStart=>exact ⟨0,Nat.zero_le _,rfl,[],rfl,Lim.nil,Own.new w _,grown_refl _ _,by rw [Nat.pow_zero,Nat.mod_one];rfl⟩
 case round=>
  obtain⟨k,hk,rfl,hI⟩:=hrel;have HI:=Lib.hid hI;clear hI
  by_cases hlt:k < n
  ·obtain⟨hs,hhs,hsl,hown,hgr,hv⟩:=HI.out;have hbw:=grown_of_new hal hgr;obtain⟨o1,rfl,hc1⟩:=(h.below hbw).at (by omega);have hcell:=hc1 (k+sk) (by omega);have b0:=h.lim.getD (k+sk);have b1:=h.lim.getD (k+sk+1)
   have hlen:(hs ++List.replicate (n-k) 0).length=n:=by simp;omega
   have hcg:=hown.cell (i:=k) (by omega);have hcf:=hown.frozen k;obtain⟨q,hq2⟩:∃q,(hs ++List.replicate (n-k) 0).getD k 0=q:=⟨_,rfl⟩;rw [hq2]at hcg
   have HS:=Lib.hid (fun v d1 hd=>shr_step (v:=v) (d1:=d1) hlo h.lim H1.out hlt hhs hsl hown hgr hv rfl hd)
   by_cases hmore:k+sk+1 < sk+n
   ·have hcell2:=hc1 (k+sk+1) hmore
    have HS':=Lib.hid (fun v=>HS.out v _ rfl)
    clear HS hc1 hv hown hgr hhs hsl hlen hq2 HI
    revert hcell hcell2 b0 b1 HS'
    generalize xs.getD (k+sk) 0=d0;generalize xs.getD (k+sk+1) 0=d1
    intro hcell b0 b1 hcell2 HS'
    obtain⟨p,v,u,HV,e1,e2,e3⟩:=shr_nums (lo:=lo) b0 b1;have HS2:=Lib.hid (HS'.out v HV.out);clear HS' HV;go_wp2
    go_roundw
    case rel=>exact ⟨k+1,by omega,by go_num,HS2.out⟩
    case measure=>simp [intOf];omega
   ·have HS':=Lib.hid (fun v=>HS.out v 0 (getD_beyond (by rw [H1.out];omega)))
    clear HS hc1 hv hown hgr hhs hsl hlen hq2 HI b1
    revert hcell b0 HS'
    generalize xs.getD (k+sk) 0=d0
    intro hcell b0 HS'
    obtain⟨u,e2⟩:∃u:Nat,(d0:Int) /2^lo=u:=⟨d0/2^lo,by simp⟩
    obtain⟨v,e3⟩:∃v:Nat,(u:Int)%4294967296=v:=⟨u%4294967296,by simp⟩
    have HS2:=Lib.hid (HS'.out v (by
     have a:d0/2^lo=u:=by
      have:((d0/2^lo:Nat):Int)=u:=by simpa using e2
      omega
     rw [Nat.mul_zero,Nat.add_zero,a];omega))
    clear HS';go_wp2
    go_roundw
    case rel=>exact ⟨k+1,by omega,by go_num,HS2.out⟩
    case measure=>simp [intOf];omega
  ·have hkn:k=n:=by omega
   subst hkn;obtain⟨hs,hhs,hsl,hown,hgr,hv⟩:=HI.out;rw [Nat.sub_self,List.replicate_zero,List.append_nil]at hown;have hS:=hown.all hsl (by omega) (c:=k) (by omega);rw [hhs]at hS
   have hlt2:val (xs.drop sk) /2^lo < 4294967296^k:=by
    have:=val_lt (h.lim.drop sk)
    rw [List.length_drop,H1.out,show sk+k-sk=k by omega]at this
    exact Nat.lt_of_le_of_lt (Nat.div_le_self _ _) this
   rw [Nat.mod_eq_of_lt hlt2]at hv;have HV:=Lib.hid hv;have HB:=Lib.hid (grown_of_new hal hgr);clear hown hgr hv hhs hsl hlt2 HI
   go_wp2_with (go_at_call 84;((with_reducible refine (trim_any wr w.heap.size _ k k hs hS).mono ?_);rintro e w4 ⟨g4,A4,c4,rfl,hm4,hb4⟩))
   go_ret
   rw [HV.out]at hm4;rw [HV.out];exact Ret1.of hm4 hb4 HB.out
theorem shr_low (w:World)(b:Nat)(A:Option Addr)(n c:Nat)(xs:List Nat)(z:Int)(h:Sl w b A n c xs)(hz:z < 1):
  Calls Tryz.prog 216 #[.slice A n c,.int .i64 z] w (Ret1 w (limbs (val xs))):=by
 have HT:=Lib.hid (trim_any w b A n c xs h)
 go_enter Tryz.func216,Tryz.ntmps216
 go_wp2_with (go_at_call 84;((with_reducible refine HT.out.mono ?_);rintro e w4 ⟨g4,A4,c4,rfl,hm4,hb4⟩))
 go_ret
 exact⟨g4,A4,c4,rfl,hm4,hb4⟩
theorem shr_all (w:World)(A:Option Addr)(n c:Nat)(z:Int)(hz:1≤z)(hz2:z≤9223372036854775807)(hn:(n:Int)≤z/32)(hb:n≤1099511627776):
  Calls Tryz.prog 216 #[.slice A n c,.int .i64 z] w (Ret1 w []):=by
 go_enter Tryz.func216,Tryz.ntmps216
 go_wp2
 go_ret
 exact⟨0,none,0,rfl,⟨Sl.nil,fun h=>absurd h (by decide)⟩,Below.refl _ _⟩
theorem shr_any (w:World)(b:Nat)(A:Option Addr)(n c:Nat)(xs:List Nat)(z:Int)(h:Sl w b A n c xs)(hz2:z≤9223372036854775807):
  Calls Tryz.prog 216 #[.slice A n c,.int .i64 z] w (Ret1 w (limbs (val xs/2^z.toNat))):=by
 by_cases h0:z < 1
 ·rw [show z.toNat=0 by omega,Nat.pow_zero,Nat.div_one]
  exact shr_low w b A n c xs z h h0
 ·have ez:z.toNat=32*(z/32).toNat+(z%32).toNat:=by omega
  rw [ez,pow_split,←Nat.div_div_eq_div_mul,←val_drop_div h.lim]
  by_cases h1:(n:Int)≤z/32
  ·rw [List.drop_eq_nil_of_le (by rw [h.len];omega),show limbs (val [] /2^(z%32).toNat)=[] by rw [val_nil,Nat.zero_div,limbs_zero]]
   exact shr_all w A n c z (by omega) hz2 h1 h.big
  ·obtain⟨m,hm⟩:∃m,n=(z/32).toNat+m:=⟨n-(z/32).toNat,by omega⟩
   subst hm;exact shr_core w b m c A xs z (z/32).toNat (z%32).toNat h (by omega) (by omega) (by omega) (by omega) (by omega)
end Go.Proofs.YtaadmpiphnfllaaGreatDoor
namespace Go.Proofs.YtaadmpiphnfllaaGreatDoor
set_option linter.unusedVariables false
theorem blen_limbs{n:Nat}(h:n≠0):blen n=((limbs n).length-1)*32+blen ((limbs n).getD ((limbs n).length-1) 0):=by
 have hl:(limbs n).length≠0:=fun e=>h (limbs_length_zero.1 e)
 have hs:=val_take_succ (xs:=limbs n) (k:=(limbs n).length-1) (by omega)
 rw [show (limbs n).length-1+1=(limbs n).length by omega,List.take_length,val_limbs]at hs
 have ht:=val_lt ((lim_limbs n).take ((limbs n).length-1));rw [List.length_take,Nat.min_eq_left (by omega)]at ht
 have hp:0 < 4294967296^((limbs n).length-1):=Nat.pow_pos (by decide)
 have hlast:=limbs_last h
 have hd:n/4294967296^((limbs n).length-1)=(limbs n).getD ((limbs n).length-1) 0:=by
  have:∀p q r,p < 4294967296^((limbs n).length-1)→r=p+4294967296^((limbs n).length-1)*q→r/4294967296^((limbs n).length-1)=q:=by
   intro p q r hpq e
   rw [e,Nat.add_mul_div_left _ _ hp,Nat.div_eq_of_lt hpq,Nat.zero_add]
  exact this _ _ _ ht hs
 have hge:4294967296^((limbs n).length-1)≤n:=by
  have:=Nat.le_mul_of_pos_right (4294967296^((limbs n).length-1)) (Nat.pos_of_ne_zero hlast)
  omega
 rw [pow32]at hd hge;rw [blen_shift n _ hge,hd]
end Go.Proofs.YtaadmpiphnfllaaGreatDoor
namespace Go.Proofs.YtaadmpiphnfllaaGreatDoor
set_option maxHeartbeats 400000
open Go.RowKit
set_option linter.unusedVariables false
theorem len_core (w:World)(b o n k c x L:Nat)(HC:Hid (Calls Tryz.prog 132 #[.slice (some ⟨b,o,none⟩) n c] w fun e w'=>e= .returned (.slice (some ⟨b,o,none⟩) k c)∧w=w'))
  (hbig:k≤1099511627776) (hpos:k≠0) (hck:w.cell? ⟨b,o+(k-1),none⟩=some (.int .u32 (x:Int))) (hlt:x < 4294967296) (HB:Hid (L=(k-1)*32+blen x)):
  Calls Tryz.prog 134 #[.slice (some ⟨b,o,none⟩) n c] w fun e w'=>e= .returned (.int .i64 (L:Int))∧w=w':=by
 have hx:=blen_mono_le (n:=x) (k:=32) hlt
 have hk0:((k:Int)==0)=false:=by simpa using hpos
 have i1:((k:Int)-1).toNat=k-1:=by omega
 go_enter Tryz.func134,Tryz.ntmps134
 go_wp2_with (first
  | (go_at_call 132;((with_reducible refine HC.out.mono ?_);rintro e w' ⟨rfl,rfl⟩))
  | (go_at_call 176;((with_reducible refine (len32_any x hlt _).mono ?_);rintro e w' ⟨rfl,rfl⟩)))
 go_ret
 have e:=HB.out;exact⟨ret_int (by omega),rfl⟩
theorem len_any (w:World)(b:Nat)(A:Option Addr)(n c:Nat)(xs:List Nat)(h:Sl w b A n c xs):
  Calls Tryz.prog 134 #[.slice A n c] w fun e w'=>e= .returned (.int .i64 (blen (val xs):Int))∧w=w':=by
 have hle:=val_limbs_le h.lim;have hlen:=h.len;have hsl:=h.take (k:=(limbs (val xs)).length) (by omega);rw [limbs_prefix h.lim]at hsl;have HC:=Lib.hid (cut_any w b A n c xs h);have hbig:=hsl.big
 by_cases h0:val xs=0
 ·rw [h0]at HC⊢;rw [limbs_zero]at HC;clear hbig hsl hlen hle h h0
  go_enter Tryz.func134,Tryz.ntmps134
  go_wp2_with (go_at_call 132;((with_reducible refine HC.out.mono ?_);rintro e w' ⟨rfl,rfl⟩))
  go_ret
  exact⟨ret_int (by rw [blen_zero];rfl),rfl⟩
 ·have HB:=Lib.hid (blen_limbs h0)
  have hpos:(limbs (val xs)).length≠0:=fun e=>h0 (limbs_length_zero.1 e)
  obtain⟨o,rfl,hc⟩:=hsl.at (by omega);exact len_core w b o n _ c _ _ HC hbig hpos (hc _ (by omega)) ((lim_limbs (val xs)).getD _) HB
theorem shl_low (w:World)(b:Nat)(A:Option Addr)(n c:Nat)(xs:List Nat)(z:Int)(h:Sl w b A n c xs)(hz:z < 1):
  Calls Tryz.prog 79 #[.slice A n c,.int .i64 z] w (Ret1 w (limbs (val xs))):=by
 have HT:=Lib.hid (trim_any w b A n c xs h)
 go_enter Tryz.func79,Tryz.ntmps79
 go_wp2_with (go_at_call 84;((with_reducible refine HT.out.mono ?_);rintro e w4 ⟨g4,A4,c4,rfl,hm4,hb4⟩))
 go_ret
 exact⟨g4,A4,c4,rfl,hm4,hb4⟩
theorem shl_mid (w:World)(b:Nat)(A:Option Addr)(n c:Nat)(xs:List Nat)(z:Int)(h:Sl w b A n c xs)(hz:1≤z)(hz2:z≤16777216)(hn:n≤549755813888):
  Calls Tryz.prog 79 #[.slice A n c,.int .i64 z] w (Ret1 w (limbs (val xs*2^z.toNat))):=by
 have HT:=Lib.hid (raised_any w b n c A xs z (z/32).toNat (z%32).toNat h (by omega) (by omega) (by omega) (by omega) (by omega))
 have e:32*(z/32).toNat+(z%32).toNat=z.toNat:=by omega
 unfold RaisedPost at HT
 rw [e]at HT;clear e
 have hs:n+(z/32).toNat+1≤1099511627776:=by omega
 revert HT hs
 generalize n+(z/32).toNat+1=L
 intro HT hs
 go_enter Tryz.func79,Tryz.ntmps79
 go_wp2_with (go_at_call 131;((with_reducible refine HT.out.mono ?_);rintro e w3 ⟨g,l,rfl,hg,hown,hlen,hlim,hv,hb⟩))
 have hS:=hown.all hlim (by omega) (c:=L) (by omega);rw [hlen]at hS;have HV:=Lib.hid hv;have HB:=Lib.hid hb;clear hown hlen hlim hv hb HT
 go_wp2_with (go_at_call 84;((with_reducible refine (trim_any w3 g _ L L l hS).mono ?_);rintro e w4 ⟨g4,A4,c4,rfl,hm4,hb4⟩))
 go_ret
 rw [HV.out]at hm4;rw [HV.out];exact Ret1.of hm4 hb4 HB.out
theorem shl_any (w:World)(b:Nat)(A:Option Addr)(n c:Nat)(xs:List Nat)(s:Nat)(h:Sl w b A n c xs)(hz2:s≤16777216)(hn:n≤549755813888):
  Calls Tryz.prog 79 #[.slice A n c,.int .i64 (s:Int)] w (Ret1 w (limbs (val xs*2^s))):=by
 by_cases h0:s=0
 ·subst h0;rw [Nat.pow_zero,Nat.mul_one];exact shl_low w b A n c xs _ h (by omega)
 ·have:=shl_mid w b A n c xs (s:Int) h (by omega) (by omega) hn
  rwa [Int.toNat_natCast]at this
end Go.Proofs.YtaadmpiphnfllaaGreatDoor
