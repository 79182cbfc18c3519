/-
 Contracts that the proof rests on.
-/
import Derived.Deep.RegionWith
import Derived.Test.YtomikokonmikgaaGreatDoorYBae
namespace Go.Proofs.YtomikokonmikgaaGreatDoor
set_option maxHeartbeats 2000000
open Go.RowKit
set_option linter.unusedVariables false
def Raised0 (w:World)(n up:Nat)(xs:List Nat)(e:Ending)(w':World):Prop:=
 ∃g l,e= .returned (.slice (some ⟨g,0,none⟩) (n+1) (n+1))/\w.heap.size<=g/\Own w' g l/\l.length=n+1/\Lim l/\val l=val xs*2^up/\Below w.heap.size w w'
theorem raised0_any (w:World)(b n c:Nat)(A:Option Addr)(xs:List Nat)(up:Nat)(h:Sl w b A n c xs)(hlo:up < 32)(hbig:n+1<=1099511627776):
  Calls Tryz.prog 185 #[.slice A n c,.int .i64 (up:Int)] w (Raised0 w n up xs):=by
 refine(raised_any w b n c A xs (up:Int) 0 up h (by omega) (by omega) (by omega) hlo (by omega)).mono ?_;rintro e w' ⟨g,l,h1,h2,h3,h4,h5,h6,h7⟩;exact⟨g,l,h1,h2,h3,h4,h5,by rw[h6];simp,h7⟩
theorem lead32_nat (x:Nat)(hx:x < 4294967296)(w:World):
  Calls Tryz.prog 260 #[.int .u32 (x:Int)] w fun e w'=>e= .returned (.int .i64 ((32-blen x:Nat):Int))/\w=w':=by
 have hb:=blen_mono_le (n:=x) (k:=32) hx
 exact(lead32_any x hx w).mono fun e w' h=>⟨h.1.trans (ret_int (by omega)),h.2⟩
def LongInv (w:World)(g1 g2 g3 m n V R0:Nat)(l2:List Nat)(k:Nat)(wr:World):Prop:=
 ∃hs L:List Nat,hs.length=k/\Lim hs/\L.length=m+n+1/\Lim L/\Own wr g1 L/\Own wr g2 l2/\Own wr g3 (List.replicate (m+1-k) 0 ++hs)/\Below w.heap.size w wr/\
  val hs*4294967296^(m+1-k)*V+val L=R0/\val (L.drop (m+1-k)) < V
theorem long_seg{L:List Nat}{m n V k:Nat}(hL:L.length=m+n+1)(hl:Lim L)(hk:k<=m)(hV:V < 4294967296^n)(h:val (L.drop (m+1-k)) < V):
  val ((L.drop (m-k)).take (n+1))=val (L.drop (m-k))/\val (L.drop (m-k)) < V*4294967296:=by
 have e1:val (L.drop (m-k))=L.getD (m-k) 0+4294967296*val (L.drop (m+1-k)):=by
  rw[val_drop (by omega),show m-k+1=m+1-k by omega]
 have b1:=hl.getD (m-k)
 have h1:val (L.drop (m-k)) < V*4294967296:=by
  have:=Nat.mul_le_mul_left 4294967296 (show val (L.drop (m+1-k))+1<=V from h)
  omega
 refine⟨?_,h1⟩;have h2:=val_take_drop (L.drop (m-k)) (k:=n+1) (by simp;omega)
 have h3:V*4294967296<=4294967296^(n+1):=by
  rw[Nat.pow_succ];exact Nat.mul_le_mul_right _ (by omega)
 rcases Nat.eq_zero_or_pos (val ((L.drop (m-k)).drop (n+1)))with e | e
 ·rw[e]at h2;omega
 ·have:=Nat.le_mul_of_pos_right (4294967296^(n+1)) e
  omega
theorem long_step{w wr w':World}{g1 g2 g3 m n V R0 k:Nat}{l2 hs L zs:List Nat}(hhs:hs.length=k)(hsl:Lim hs)(hL:L.length=m+n+1)(hl:Lim L)(o2:Own wr g2 l2)(o3:Own wr g3 (List.replicate (m+1-k) 0 ++hs))(hb:Below w.heap.size w wr)
  (hv:val hs*4294967296^(m+1-k)*V+val L=R0) (hd:val (L.drop (m+1-k)) < V) (hk:k<=m) (hV:V < 4294967296^n) (n12:g1≠g2) (n13:g1≠g3) (n23:g2≠g3) (hg1:w.heap.size<=g1) (hg3:w.heap.size<=g3)
  (hz:zs.length=n+1) (ht:Turned wr g1 (m-k) L zs w') (hzv:val zs=val ((L.drop (m-k)).take (n+1))%V):
  LongInv w g1 g2 g3 m n V R0 l2 (k+1) (w'.setCell ⟨g3,m-k,none⟩ (.int .u32 ((val ((L.drop (m-k)).take (n+1)) /V:Nat):Int))):=by
 obtain⟨s1,s2⟩:=long_seg hL hl hk hV hd
 have hV0:0 < V:=by omega
 have hD:val ((L.drop (m-k)).take (n+1)) /V < 4294967296:=by
  rw[s1,Nat.div_lt_iff_lt_mul hV0,Nat.mul_comm];exact s2
 have hds:=div_split (val ((L.drop (m-k)).take (n+1))) V;have hz0:=Nat.mod_lt (val ((L.drop (m-k)).take (n+1))) hV0;rw[<-hzv]at hds hz0
 have b':Below w.heap.size w w':=hb.trans (below_grown ht.2.1 hg1 hb.size)
 have e0:val (L.drop (m-k+(n+1)))=0:=by
  have h2:=val_take_drop (L.drop (m-k)) (k:=n+1) (by simp;omega);rw[s1,List.drop_drop]at h2
  rcases Nat.eq_zero_or_pos (val (L.drop (m-k+(n+1))))with e | e
  ·exact e
  ·have:=Nat.mul_pos (show 0 < 4294967296^(n+1)from Nat.pow_pos (by decide)) e
   omega
 have em:(mid L (m-k) zs).drop (m-k)=zs ++L.drop (m-k+(n+1)):=by
  have e:(L.take (m-k)).length=m-k:=by simp;omega
  unfold mid
  rw[List.append_assoc,List.drop_append,List.drop_eq_nil_of_le (by omega),e,Nat.sub_self,hz]
  simp
 have ev:val ((mid L (m-k) zs).drop (m-k))=val zs:=by rw[em,val_append,e0];simp
 have hmk:m+1-(k+1)=m-k:=by omega
 generalize hDD:val ((L.drop (m-k)).take (n+1)) /V=D at *;refine⟨D::hs,mid L (m-k) zs,by simp;omega,Lim.cons hD hsl,by rw[mid_length (by omega)];exact hL,mid_lim hl ht.2.2,ht.1.far (by simpa using n13) _,(o2.grown ht.2.1 (by simpa using n12.symm)).far (by simpa using n23) _,?_,b'.setCell (by simpa using hg3) _,?_,?_⟩
 ·have h3:=(o3.grown ht.2.1 (by simpa using n13.symm)).set (m-k) D
  have e:(List.replicate (m+1-k) 0 ++hs).set (m-k) D=List.replicate (m+1-(k+1)) 0 ++(D::hs):=by
   rw[show m+1-k=m+1-(k+1)+1 by omega,<-List.replicate_append_replicate,List.append_assoc,List.set_append_right _ _ (by simp),List.length_replicate,show m-k-(m+1-(k+1))=0 by omega]
   simp
  rwa [e]at h3
 ·have a1:=val_take_drop L (k:=m-k) (by omega);have a2:=val_take_drop (mid L (m-k) zs) (k:=m-k) (by rw[mid_length (by omega)];omega);rw[mid_take (by omega),ev]at a2;rw[hmk,val_cons]
  rw[show m+1-k=m-k+1 by omega,Nat.pow_succ]at hv
  rw[s1]at hds;rw[a1,<-hds]at hv;rw[a2,<-hv]
  grind
 ·rw[hmk,ev];exact hz0
theorem up_val{ys:List Nat}{n x up:Nat}(hl:ys.length=n)(hn:0 < n)(hlim:Lim ys)(hx:ys.getD (n-1) 0=x)(hup:up=32-blen x):val ys*2^up < 4294967296^n:=by
 have h1:=val_take_succ (xs:=ys) (k:=n-1) (by omega)
 rw[show n-1+1=n by omega,val_take_all (by omega),hx]at h1
 have h2:=val_lt (hlim.take (n-1));rw[List.length_take,Nat.min_eq_left (by omega)]at h2
 have hxl:x < 4294967296:=by rw[<-hx];exact hlim.getD _
 have hb:=blen_lt x;have hb2:=blen_mono_le (n:=x) (k:=32) hxl;obtain⟨k,rfl⟩:∃k,n=k+1:=⟨n-1,by omega⟩
 rw[Nat.add_sub_cancel]at *
 have h3:val ys < 4294967296^k*2^blen x:=by
  have:=Nat.mul_le_mul_left (4294967296^k) (show x+1<=2^blen x from hb)
  rw[Nat.mul_add]at this
  omega
 have h4:=Nat.mul_lt_mul_of_pos_right h3 (Nat.two_pow_pos up)
 rw[Nat.mul_assoc,<-Nat.pow_add,show blen x+up=32 by omega]at h4
 rw[Nat.pow_succ];exact h4
theorem up_lt{x:Nat}(h0:x≠0):32-blen x < 32:=by
 have h1:=blen_lt x
 have h3:blen x≠0:=fun e=>by rw[e]at h1;simp at h1;exact h0 h1
 omega
theorem long_start{xs ys L:List Nat}{m n up:Nat}(hxl:xs.length=m+n)(hxs:Lim xs)(hyl:ys.length=n)(hn:0 < n)(hy:ys.getD (n-1) 0≠0)(hL:Lim L)(hv:val L=val xs*2^up):val (L.drop (m+1)) < val ys*2^up:=by
 rw[val_drop_div hL,hv,Nat.div_lt_iff_lt_mul (Nat.pow_pos (by decide))];have h1:=val_lt hxs;rw[hxl]at h1;have h2:=val_take_succ (xs:=ys) (k:=n-1) (by omega)
 rw[show n-1+1=n by omega,val_take_all (by omega)]at h2
 have h3:4294967296^(n-1)<=val ys:=by
  have:=Nat.le_mul_of_pos_right (4294967296^(n-1)) (Nat.pos_of_ne_zero hy)
  omega
 have h4:4294967296^(m+n)<=val ys*4294967296^(m+1):=by
  have:=Nat.mul_le_mul_right (4294967296^(m+1)) h3
  rwa [<-Nat.pow_add,show n-1+(m+1)=m+n by omega]at this
 have h5:=Nat.mul_lt_mul_of_pos_right (Nat.lt_of_lt_of_le h1 h4) (Nat.two_pow_pos up);rw[Nat.mul_right_comm];exact h5
theorem top_ne{ds:List Nat}{n:Nat}(hl:ds.length=n)(hn:0 < n)(hlim:Lim ds)(h:4294967296^(n-1)<=val ds):ds.getD (n-1) 0≠0:=by
 intro e
 have h1:=val_take_succ (xs:=ds) (k:=n-1) (by omega)
 rw[show n-1+1=n by omega,val_take_all (by omega),e]at h1
 have h2:=val_lt (hlim.take (n-1));rw[List.length_take,Nat.min_eq_left (by omega)]at h2
 omega
theorem top_ge{ys:List Nat}{n:Nat}(hl:ys.length=n)(hn:0 < n)(hy:ys.getD (n-1) 0≠0):4294967296^(n-1)<=val ys:=by
 have h2:=val_take_succ (xs:=ys) (k:=n-1) (by omega)
 rw[show n-1+1=n by omega,val_take_all (by omega)]at h2
 have:=Nat.le_mul_of_pos_right (4294967296^(n-1)) (Nat.pos_of_ne_zero hy)
 omega
theorem div_limbs{l2 ys:List Nat}{n up:Nat}(hl2:l2.length=n+1)(hm2:Lim l2)(hv2:val l2=val ys*2^up)(hV:val ys*2^up < 4294967296^n):val (l2.take n)=val ys*2^up:=by
 have h:=val_take_drop l2 (k:=n) (by omega);rw[hv2]at h
 rcases Nat.eq_zero_or_pos (val (l2.drop n))with e | e
 ·rw[e]at h;omega
 ·have:=Nat.le_mul_of_pos_right (4294967296^n) e
  omega
theorem long_init{w w1 w2:World}{g1 g2 m n up:Nat}{l1 l2 xs ys:List Nat}(hb1:Below w.heap.size w w1)(hb2:Below w1.heap.size w1 w2)(o1:Own w1 g1 l1)(o2:Own w2 g2 l2)(hl1:l1.length=m+n+1)(hm1:Lim l1)(hv1:val l1=val xs*2^up)
  (hs:val (l1.drop (m+1)) < val ys*2^up):
  LongInv w g1 g2 w2.heap.size m n (val ys*2^up) (val xs*2^up) l2 0 (w2.alloc (.cells (arr (List.replicate (m+1) 0)) 92)):=
 ⟨[],l1,rfl,Lim.nil,hl1,hm1,(o1.below hb2 o1.lt).alloc _,o2.alloc _,by rw[List.append_nil];exact Own.new w2 _,(hb1.trans (hb2.mono hb1.size)).alloc (Nat.le_trans hb1.size hb2.size) _,by rw[hv1];simp[val],hs⟩
theorem long_post{w wr w':World}{g1 g2 g3 m n V R0 k:Nat}{l2 hs L:List Nat}{e:Ending}(hhs:hs.length=k)(hsl:Lim hs)(hL:L.length=m+n+1)(hl:Lim L)(o2:Own wr g2 l2)(o3:Own wr g3 (List.replicate (m+1-k) 0 ++hs))(hb:Below w.heap.size w wr)
  (hv:val hs*4294967296^(m+1-k)*V+val L=R0) (hd:val (L.drop (m+1-k)) < V) (hk:k<=m) (hV:V < 4294967296^n) (n12:g1≠g2) (n13:g1≠g3) (n23:g2≠g3) (hg1:w.heap.size<=g1) (hg3:w.heap.size<=g3)
  (h:DigitPost wr g1 (m-k) (n+1) L (val ((L.drop (m-k)).take (n+1))) V e w'):
  ∃D q:Nat,e= .returned (.int .u32 (D:Int))/\w'.cell? ⟨g3,m-k,none⟩=some (.int .u32 (q:Int))/\w'.frozen? ⟨g3,m-k,none⟩=false/\Hid (LongInv w g1 g2 g3 m n V R0 l2 (k+1) (w'.setCell ⟨g3,m-k,none⟩ (.int .u32 (D:Int)))):=by
 obtain⟨rfl,zs,hz,ht,hzv⟩:=h
 have o3':=o3.grown ht.2.1 (by simpa using n13.symm)
 exact⟨_,_,rfl,o3'.cell (by simp;omega),o3'.frozen _,long_step hhs hsl hL hl o2 o3 hb hv hd hk hV n12 n13 n23 hg1 hg3 hz ht hzv⟩
theorem long_done{hs L xs ys:List Nat}{up:Nat}(hv:val hs*(val ys*2^up)+val L=val xs*2^up)(hd:val L < val ys*2^up):val hs=val xs/val ys/\val L/2^up=val xs%val ys:=by
 have hp:=Nat.two_pow_pos up
 have hV:0 < val ys*2^up:=by omega
 have h1:val xs*2^up/ (val ys*2^up)=val hs:=by
  rw[<-hv,Nat.mul_comm (val hs),Nat.mul_add_div hV,Nat.div_eq_of_lt hd,Nat.add_zero]
 have h2:val xs*2^up%(val ys*2^up)=val L:=by
  rw[<-hv,Nat.mul_comm (val hs),Nat.mul_add_mod,Nat.mod_eq_of_lt hd]
 rw[Nat.mul_div_mul_right _ _ hp]at h1;rw[Nat.mul_mod_mul_right]at h2;exact⟨h1.symm,by rw[<-h2,Nat.mul_div_cancel _ hp]⟩
theorem take_small{L:List Nat}{n m V:Nat}(hL:L.length=m+n+1)(h:val L < V)(hV:V < 4294967296^n):val (L.take n)=val L:=by
 have h1:=val_take_drop L (k:=n) (by omega)
 rcases Nat.eq_zero_or_pos (val (L.drop n))with e | e
 ·rw[e]at h1;omega
 ·have:=Nat.le_mul_of_pos_right (4294967296^n) e
  omega
theorem divLong_any (w:World)(b1 b2:Nat)(A1 A2:Option Addr)(m n c1 c2:Nat)(xs ys:List Nat)(h1:Sl w b1 A1 (m+n) c1 xs)(h2:Sl w b2 A2 n c2 ys)(hn:2<=n)(hy:ys.getD (n-1) 0≠0)(hs:m+n<=549755813888):
  Calls Tryz.prog 239 #[.slice A1 (m+n) c1,.slice A2 n c2] w (Ret2 w (limbs (val xs/val ys)) (limbs (val xs%val ys))):=by
 have H1:=Lib.hid h1.len;have H2:=Lib.hid h2.len;have bx:=h2.lim.getD (n-1);obtain⟨x,hx⟩:∃x,ys.getD (n-1) 0=x:=⟨_,rfl⟩;obtain⟨o2,rfl,hc2⟩:=h2.at (by omega);have hcell:=hc2 (n-1) (by omega);rw[hx]at hcell bx hy;have hup:=up_lt hy;have HL:=Lib.hid (lead32_nat x bx);obtain⟨up,hup2⟩:∃up,32-blen x=up:=⟨_,rfl⟩;have HV:=Lib.hid (up_val H2.out (by omega) h2.lim hx hup2.symm)
 rw[hup2]at HL hup
 have HS:=Lib.hid (fun L hL hv=>long_start (L:=L) (up:=up) H1.out h1.lim H2.out (by omega) (by rw[hx];exact hy) hL hv)
 have HX:=Lib.hid hx;clear hc2 hup2 hx
 have i1:((n:Int)-1).toNat=n-1:=by omega
 go_enter Tryz.func239,Tryz.ntmps239
 go_wp2_with (go_at_call 260;((with_reducible refine(HL.out _).mono ?_);rintro e w' ⟨rfl,rfl⟩))
 clear HL
 have hs1:m+n+1<=1099511627776:=by omega
 have hs2:n+1<=1099511627776:=by omega
 go_region_with (first
  | (go_at_call 185;((with_reducible refine(raised0_any w.drew b1 (m+n) c1 A1 xs up h1.drew hup hs1).mono ?_);(rintro e w1 ⟨g1,l1,rfl,hg1,ho1,hl1,hm1,hv1,hb1⟩);have HB1:Hid (Below w.heap.size w w1):=(Below.refl _ _).drew.trans hb1;have s2:=h2.below HB1.out;have HO1:=Lib.hid ho1;have HL1:=Lib.hid hl1;have HM1:=Lib.hid hm1;have HV1:=Lib.hid hv1;clear ho1 hl1 hm1 hv1 hb1))
  | (go_at_call 185;((with_reducible refine(raised0_any w1 b2 n c2 _ ys up s2 hup hs2).mono ?_);(rintro e w2 ⟨g2,l2,rfl,hg2,ho2,hl2,hm2,hv2,hb2⟩);have HB2:=Lib.hid hb2;have HO2:=Lib.hid ho2;have HL2:=Lib.hid hl2;have HM2:=Lib.hid hm2;have HV2:=Lib.hid hv2;clear ho2 hl2 hm2 hv2 hb2 s2)))
 have hg1':w.heap.size<=g1:=hg1
 have hlt1:=HO1.out.lt;have hlt2:=HO2.out.lt;have hwsz:=HB1.out.size;have hwsz2:=HB2.out.size;have HI:=Lib.hid (long_init HB1.out HB2.out HO1.out HO2.out HL1.out HM1.out HV1.out (HS.out l1 HM1.out HV1.out));have HD:=Lib.hid (div_limbs HL2.out HM2.out HV2.out HV.out)
 have HN:Hid ((l2.take n).getD (n-1) 0≠0):=top_ne (by rw[List.length_take,HL2.out];omega) (by omega) (HM2.out.take n) (by
  rw[HD.out];have a:=top_ge H2.out (by omega) (by rw[HX.out];exact hy);have b:=Nat.le_mul_of_pos_right (val ys) (Nat.two_pow_pos up)
  omega)
 have hmk:=fun W=>run_make32' (m+1) ((m:Int)+1) (by omega) (by omega) W
 clear hg1 HO1 HO2 HB1 HB2 HL1 HM1 HV1 HV2 HS hcell;go_wp2;clear hmk
 go_loopw [37] (fun i wr=>∃k:Nat,k<=m+1/\i= .int .i64 k/\LongInv w g1 g2 w2.heap.size m n (val ys*2^up) (val xs*2^up) l2 k wr) (fun i _=>m+1-(intOf i).toNat)
 case atStart=>exact ⟨0,Nat.zero_le _,rfl,HI.out⟩
 case round=>
  clear HI;obtain⟨k,hk,rfl,hI⟩:=hrel;have HI:=Lib.hid hI;clear hI
  by_cases hlt:k < m+1
  ·obtain⟨hs,L,a1,a2,a3,a4,a5,a6,a7,a8,a9,a10⟩:=HI.out
   have i3:((m:Int)-k).toNat=m-k:=by omega
   have i4:((m:Int)-k+n+1).toNat=m-k+(n+1):=by omega
   have hcap:¬(m+n+1=m-k):=by omega
   have hsl2:=a6.sl HM2.out (o:=0) (n:=n) (c:=n+1) (by rw[HL2.out];omega) (by omega) (by rw[HL2.out];omega);rw[List.drop_zero]at hsl2;have hseg:=long_seg a3 a4 (by omega) HV.out a10;have hk1:=takeDigit_any wr g1 (m-k) n (m+n+1-(m-k)) g2 (n+1) (some ⟨g2,0,none⟩) L (l2.take n) a5 a4 (by omega) (by omega) (by omega) hsl2 (by omega) hn HN.out (by rw[HD.out,hseg.1];exact hseg.2)
   rw[HD.out]at hk1
   have HK:=Lib.hid (hk1.mono fun e w' h=>long_post (g3:=w2.heap.size) a1 a2 a3 a4 a6 a7 a8 a9 a10 (by omega) HV.out (by omega) (by omega) (by omega) hg1' (by omega) h)
   clear a1 a2 a3 a4 a5 a6 a7 a8 a9 a10 hk1 hseg hsl2 HI
   go_wp2_with (go_at_call 261;((with_reducible refine HK.out.mono ?_);(rintro e w3 ⟨D,q,rfl,hc3,hf3,H3⟩)))
   go_roundw
   case rel=>exact ⟨k+1,by omega,by go_num,H3.out⟩
   case measure=>simp [intOf];omega
  ·obtain rfl:k=m+1:=by omega
   obtain⟨hs,L,a1,a2,a3,a4,a5,a6,a7,a8,a9,a10⟩:=HI.out;rw[Nat.sub_self,List.replicate_zero,List.nil_append]at a7;rw[Nat.sub_self,Nat.pow_zero,Nat.mul_one]at a9;rw[Nat.sub_self,List.drop_zero]at a10;obtain⟨f1,f2⟩:=long_done a9 a10;have s1:=a7.all a2 (by omega) (c:=m+1) (by omega);rw[a1]at s1;have s2:=a5.sl a4 (o:=0) (n:=n) (c:=m+n+1) (by omega) (by omega) (by omega)
   rw[List.drop_zero]at s2;have f3:=take_small a3 a10 HV.out;have HF1:=Lib.hid f1
   have HF2:Hid (val (L.take n) /2^up=val xs%val ys):=by show _=_;rw[f3,f2]
   have HB:=Lib.hid a8;clear a1 a2 a3 a4 a5 a6 a7 a8 a9 a10 f1 f2 f3 HI
   have HT:Hid (∀W,Sl W w2.heap.size (some ⟨w2.heap.size,0,none⟩) (m+1) (m+1) hs->Calls Tryz.prog 124 #[.slice (some ⟨w2.heap.size,0,none⟩) (m+1) (m+1)] W (Ret1 W (limbs (val xs/val ys)))):=fun W h=>by
    rw[<-HF1.out];exact trim_any W _ _ _ _ hs h
   have HR:Hid (∀W,Sl W g1 (some ⟨g1,0,none⟩) n (m+n+1) (L.take n)->Calls Tryz.prog 249 #[.slice (some ⟨g1,0,none⟩) n (m+n+1),.int .i64 (up:Int)] W (Ret1 W (limbs (val xs%val ys)))):=fun W h=>by
    have:=shr_any W g1 _ n (m+n+1) (L.take n) (up:Int) h (by omega)
    rwa [Int.toNat_natCast,HF2.out]at this
   clear HF1 HF2;go_wp2
   go_region_with (first
    | (go_at_call 124;((with_reducible refine(HT.out wr.drew s1.drew).mono ?_);(rintro e w4 ⟨g4,A4,c4,rfl,hm4,hb4⟩);have HB4:Hid (Below w.heap.size w w4):=HB.out.drew.trans (hb4.mono HB.out.size);have s4:=s2.drew.below hb4;have HO4:Hid (Out w4 (limbs (val xs/val ys)) A4 c4):=hm4.out;clear hm4 hb4))
    | (go_at_call 249;((with_reducible refine(HR.out w4 s4).mono ?_);(rintro e w5 ⟨g5,A5,c5,rfl,hm5,hb5⟩);have HB5:=Lib.hid hb5;have HO5:Hid (Out w5 (limbs (val xs%val ys)) A5 c5):=hm5.out;clear hm5 hb5)))
   all_goals
    go_wp2
    go_ret2
    exact⟨A4,c4,A5,c5,rfl,HO4.out.below HB5.out,HO5.out,HB4.out.trans (HB5.out.mono HB4.out.size)⟩
def Ret3 (w:World)(lq lr:List Nat)(e:Ending)(w':World):Prop:=
 ∃A1 c1 A2 c2,e= .returned (.tuple #[.slice A1 lq.length c1,.slice A2 lr.length c2,.bool true])/\Out w' lq A1 c1/\Out w' lr A2 c2/\Below w.heap.size w w'
theorem div_core (w:World)(b1 b2:Nat)(A1 A2:Option Addr)(n m c1 c2 p q:Nat)(la lb:List Nat)(h1:Sl w b1 A1 p c1 la)(h2:Sl w b2 A2 q c2 lb)
  (HC1:Hid (Calls Tryz.prog 186 #[.slice A1 n c1] w fun e w'=>e= .returned (.slice A1 p c1)/\w=w'))
  (HC2:Hid (Calls Tryz.prog 186 #[.slice A2 m c2] w fun e w'=>e= .returned (.slice A2 q c2)/\w=w'))
  (hp:p<=549755813888) (hq:0 < q) (hy:lb.getD (q-1) 0≠0) (hpq:¬val la < val lb->q<=p):
  Calls Tryz.prog 190 #[.slice A1 n c1,.slice A2 m c2] w (Ret3 w (limbs (val la/val lb)) (limbs (val la%val lb))):=by
 have hqb:=h2.big
 have hq0:((q:Int)==0)=false:=by simp;omega
 have HM:=Lib.hid (cmp_any w b1 b2 A1 A2 p q c1 c2 la lb h1 h2)
 by_cases hlt:val la < val lb
 ·have HQ:Hid (val la/val lb=0):=Nat.div_eq_of_lt hlt
  have HR:Hid (val la%val lb=val la):=Nat.mod_eq_of_lt hlt
  have hm:=HM.out;rw[cmpI_lt (by omega)]at hm;clear HM;have HM:=Lib.hid hm;clear hm hlt hpq hy
  go_enter Tryz.func190,Tryz.ntmps190
  go_wp2_with (first
   | (go_at_call 186;((with_reducible refine HC1.out.mono ?_);rintro e w' ⟨rfl,rfl⟩))
   | (go_at_call 186;((with_reducible refine HC2.out.mono ?_);rintro e w' ⟨rfl,rfl⟩))
   | (go_at_call 123;((with_reducible refine HM.out.mono ?_);rintro e w' ⟨rfl,t,rfl⟩))
   | (go_at_call 124;((with_reducible refine(trim_any _ b1 A1 p c1 la (h1.drewN _)).mono ?_);rintro e w2 ⟨g,A,c,rfl,hm2,hb2⟩)))
  go_ret3
  rw[HQ.out,HR.out,limbs_zero]
  exact⟨none,0,A,c,rfl,⟨0,Sl.nil,fun hn=>absurd hn (by simp)⟩,hm2.out,(below_drewN (Below.refl _ _) _).trans hb2⟩
 ·obtain⟨z,hz,hz0⟩:=cmpI_ge (a:=val la) (b:=val lb) (by omega);have hm:=HM.out;rw[hz]at hm;clear HM hz;have HM:=Lib.hid hm;have hle:=hpq hlt;clear hm hpq hlt
  by_cases hq1:q=1
  ·subst hq1;obtain⟨o2,rfl,hc2⟩:=h2.at (by omega);have hcell:=hc2 0 (by omega);rw[Nat.add_zero]at hcell;have bx:=h2.lim.getD 0
   have HV:Hid (val lb=lb.getD 0 0):=by
    have:=val_take_succ (xs:=lb) (k:=0) (by rw[h2.len];omega)
    rw[val_take_all (by rw[h2.len];omega)]at this
    show _=_
    rw[this];simp[val]
   have hd0:0 < lb.getD 0 0:=Nat.pos_of_ne_zero hy
   have hk:=fun W hW=>divLimb_any W b1 p c1 A1 la (lb.getD 0 0) hW hd0 bx
   rw[<-HV.out]at hk;have HK:=Lib.hid hk;clear hk hc2 hy bx hd0;rw[HV.out]at HK
   revert hcell HK HV
   generalize lb.getD 0 0=d
   intro hcell HV HK
   have hq1':(((1:Nat):Int)==1)=true:=rfl
   go_enter Tryz.func190,Tryz.ntmps190
   go_wp2_with (first
    | (go_at_call 186;((with_reducible refine HC1.out.mono ?_);rintro e w' ⟨rfl,rfl⟩))
    | (go_at_call 186;((with_reducible refine HC2.out.mono ?_);rintro e w' ⟨rfl,rfl⟩))
    | (go_at_call 123;((with_reducible refine HM.out.mono ?_);rintro e w' ⟨rfl,t,rfl⟩))
    | (go_at_call 238;((with_reducible refine(HK.out _ (h1.drewN _)).mono ?_);rintro e w2 ⟨A3,c3,A4,c4,rfl,hm3,hm4,hb2⟩)))
   go_ret3
   rw[HV.out];exact⟨A3,c3,A4,c4,rfl,hm3,hm4,(below_drewN (Below.refl _ _) _).trans hb2⟩
  ·obtain⟨k,rfl⟩:∃k,p=k+q:=⟨p-q,by omega⟩
   have hq1':((q:Int)==1)=false:=by simp;omega
   have HK:=Lib.hid (fun W hW1 hW2=>divLong_any W b1 b2 A1 A2 k q c1 c2 la lb hW1 hW2 (by omega) hy hp)
   clear hy hq1
   go_enter Tryz.func190,Tryz.ntmps190
   go_wp2_with (first
    | (go_at_call 186;((with_reducible refine HC1.out.mono ?_);rintro e w' ⟨rfl,rfl⟩))
    | (go_at_call 186;((with_reducible refine HC2.out.mono ?_);rintro e w' ⟨rfl,rfl⟩))
    | (go_at_call 123;((with_reducible refine HM.out.mono ?_);rintro e w' ⟨rfl,t,rfl⟩))
    | (go_at_call 239;((with_reducible refine(HK.out _ (h1.drewN _) (h2.drewN _)).mono ?_);rintro e w2 ⟨A3,c3,A4,c4,rfl,hm3,hm4,hb2⟩)))
   go_ret3
   exact⟨A3,c3,A4,c4,rfl,hm3,hm4,(below_drewN (Below.refl _ _) _).trans hb2⟩
theorem div_any (w:World)(b1 b2:Nat)(A1 A2:Option Addr)(n m c1 c2:Nat)(xs ys:List Nat)(h1:Sl w b1 A1 n c1 xs)(h2:Sl w b2 A2 m c2 ys)(hn:n<=549755813888)(h0:val ys≠0):
  Calls Tryz.prog 190 #[.slice A1 n c1,.slice A2 m c2] w (Ret3 w (limbs (val xs/val ys)) (limbs (val xs%val ys))):=by
 have hpos:0 < (limbs (val ys)).length:=Nat.pos_of_ne_zero fun e=>h0 (limbs_length_zero.1 e)
 have:=div_core w b1 b2 A1 A2 n m c1 c2 _ _ _ _ (cut_sl h1) (cut_sl h2) (cut_any w b1 A1 n c1 xs h1) (cut_any w b2 A2 m c2 ys h2)
  (by have:=val_limbs_le h1.lim;have:=h1.len;omega) hpos (limbs_last h0) (fun h=>by rw[val_limbs,val_limbs]at h;exact limbs_length_mono (by omega))
 rwa [val_limbs,val_limbs]at this
def MulsInv (w:World)(g p q:Nat)(la lb:List Nat)(i:Nat)(wr:World):Prop:=
 ∃hs:List Nat,hs.length=i+q/\Lim hs/\Own wr g (hs ++List.replicate (p-i) 0)/\w.grownBy wr (some g)/\val hs=val (la.take i)*val lb
theorem mul_round{w wr w3:World}{g p q k x:Nat}{la lb:List Nat}{hs:List Nat}{e:Ending}(hhs:hs.length=k+q)(hsl:Lim hs)(hown:Own wr g (hs ++List.replicate (p-k) 0))(hgr:w.grownBy wr (some g))(hv:val hs=val (la.take k)*val lb)
  (hk:k < p) (hx:la.getD k 0=x) (hla:la.length=p) (hp:MulPost wr.drew g k q (hs ++List.replicate (p-k) 0) lb x e w3):
  ∃cy:Nat,e= .returned (.int .u32 (cy:Int))/\w3.cell? ⟨g,k+q,none⟩=some (.int .u32 0)/\w3.frozen? ⟨g,k+q,none⟩=false/\
   Hid (MulsInv w g p q la lb (k+1) (w3.setCell ⟨g,k+q,none⟩ (.int .u32 (cy:Int)))):=by
 obtain⟨cy,rfl,zs,hz,ht,hcy,hv2⟩:=hp
 have hlen:(hs ++List.replicate (p-k) 0).length=q+p:=by simp;omega
 have hcell:=ht.cell (by omega);rw[hz]at hcell
 have e0:(hs ++List.replicate (p-k) 0).getD (k+q) 0=0:=by
  rw[List.getD_eq_getElem?_getD,List.getElem?_append_right (by omega),hhs,Nat.sub_self,List.getElem?_replicate]
  split <;> rfl
 rw[e0]at hcell;refine⟨cy,rfl,hcell,ht.1.frozen _,hs.take k ++zs ++[cy],by simp;omega,((hsl.take k).append ht.2.2).append (Lim.cons hcy Lim.nil),?_,?_,?_⟩
 ·have h1:=ht.1.set (k+q) cy;rw[<-hz,mid_set (by omega)]at h1
  have e1:mid (hs ++List.replicate (p-k) 0) k (zs ++[cy])=hs.take k ++zs ++[cy]++List.replicate (p-(k+1)) 0:=by
   unfold mid
   rw[List.take_append_of_le_length (by omega),List.drop_append,List.drop_eq_nil_of_le (by simp;omega),List.drop_replicate,List.length_append,hz,hhs]
   simp
   omega
  rw[e1,hz]at h1;exact h1
 ·have:=grown_trans hgr (grown_trans (grown_drew (grown_refl wr (some g))) ht.2.1)
  exact grown_set this _
 ·have e2:((hs ++List.replicate (p-k) 0).drop k).take q=hs.drop k:=by
   rw[List.drop_append_of_le_length (by omega),List.take_append_of_le_length (by simp;omega),List.take_of_length_le (by simp;omega)]
  rw[e2]at hv2;have e3:=val_take_drop hs (k:=k) (by omega)
  have e4:(hs.take k ++zs).length=k+q:=by simp;omega
  have e5:(hs.take k).length=k:=by simp;omega
  rw[val_snoc,val_append,e4,e5,val_take_succ (by omega),hx,Nat.add_mul,<-hv,e3,Nat.pow_add]
  have e6:4294967296^k*(val zs+cy*4294967296^q)=4294967296^k*(val (hs.drop k)+x*val lb):=by rw[hv2]
  grind
theorem mul_core (w:World)(b1 b2:Nat)(A1 A2:Option Addr)(n m c1 c2 p q:Nat)(la lb:List Nat)(h1:Sl w b1 A1 p c1 la)(h2:Sl w b2 A2 q c2 lb)
  (HC1:Hid (Calls Tryz.prog 186 #[.slice A1 n c1] w fun e w'=>e= .returned (.slice A1 p c1)/\w=w'))
  (HC2:Hid (Calls Tryz.prog 186 #[.slice A2 m c2] w fun e w'=>e= .returned (.slice A2 q c2)/\w=w'))
  (hp:p<=549755813888) (hq:q<=549755813888):
  Calls Tryz.prog 120 #[.slice A1 n c1,.slice A2 m c2] w (Ret1 w (limbs (val la*val lb))):=by
 have H1:=Lib.hid h1.len;have H2:=Lib.hid h2.len
 have hmk:=fun W=>run_make32' (p+q) ((p:Int)+q) (by omega) (by omega) W
 have hal:Below w.heap.size w (w.alloc (.cells (arr (List.replicate (p+q) 0)) 92)):=(Below.refl _ _).alloc (Nat.le_refl _) _
 go_enter Tryz.func120,Tryz.ntmps120
 go_wp2_with (first
  | (go_at_call 186;((with_reducible refine HC1.out.mono ?_);rintro e w' ⟨rfl,rfl⟩))
  | (go_at_call 186;((with_reducible refine HC2.out.mono ?_);rintro e w' ⟨rfl,rfl⟩)))
 clear HC1 HC2 hmk
 go_loopw [19] (fun i wr=>∃k:Nat,k<=p/\i= .int .i64 k/\MulsInv (w.alloc (.cells (arr (List.replicate (p+q) 0)) 92)) w.heap.size p q la lb k wr) (fun i _=>p-(intOf i).toNat)
 case atStart=>exact ⟨0,Nat.zero_le _,rfl,List.replicate q 0,by simp,Lim.replicate _,by have:=Own.new w (List.replicate (p+q) 0);rw[List.replicate_append_replicate,Nat.sub_zero,Nat.add_comm q p];exact this,grown_refl _ _,by rw[val_zeros];simp[val]⟩
 case round=>
  obtain⟨k,hk,rfl,hI⟩:=hrel;have HI:=Lib.hid hI;clear hI
  by_cases hlt:k < p
  ·obtain⟨hs,hhs,hsl,hown,hgr,hv⟩:=HI.out;have hbw:=grown_of_new hal hgr;have hsl1:=h1.below hbw;have hsl2:=h2.below hbw;obtain⟨o1,rfl,hc1⟩:=hsl1.at (by omega);have hcell:=hc1 k hlt;have bx:=h1.lim.getD k
   have hlen:(hs ++List.replicate (p-k) 0).length=q+p:=by simp;omega
   have HA:=Lib.hid ((addTimes_any wr.drew w.heap.size k q (p+q-k) b2 c2 (la.getD k 0) A2 (hs ++List.replicate (p-k) 0) lb hown (hsl.append (Lim.replicate _)) (by omega) (by omega) hsl2 (fun h=>by have:=h2.lt h;omega) bx).mono
    fun e w3 h3=>mul_round hhs hsl hown hgr hv hlt rfl H1.out h3)
   clear hown hsl hhs hgr hv hc1 hbw hlen hsl1 hsl2
   revert hcell HA
   generalize la.getD k 0=x
   intro hcell HA
   have hcap:¬(p+q=k):=by omega
   have hs3:(k:Int)+q<=(p:Int)+q:=by omega
   have hs4:(0:Int)<=(k:Int)+q:=by omega
   have hs5:(k:Int)<=(k:Int)+q:=by omega
   have hs2:((k:Int)+q).toNat=k+q:=by omega
   have hs1:IntKind.i64.wrap ((k:Int)+q)=(k:Int)+q:=IntWalk.i64_in _ (by omega)
   go_wp2
   go_region_with ((go_at_call 187;((with_reducible refine HA.out.mono ?_);(rintro e w3 ⟨cy,rfl,hc3,hf3,H3⟩))))
   clear hs1 hs2 hs3 hs4 hs5;go_wp2
   go_roundw
   case rel=>exact ⟨k+1,by omega,by go_num,H3.out⟩
   case measure=>simp [intOf];omega
  ·have hkp:k=p:=by omega
   subst hkp;obtain⟨hs,hhs,hsl,hown,hgr,hv⟩:=HI.out;rw[Nat.sub_self,List.replicate_zero,List.append_nil]at hown;rw[val_take_all (xs:=la) (by rw[H1.out];omega)]at hv;have hS:=hown.all hsl (by omega) (c:=k+q) (by omega);rw[hhs]at hS;have HV:=Lib.hid hv;have HB:=Lib.hid (grown_of_new hal hgr);clear hown hgr hv hhs hsl
   go_wp2_with (go_at_call 124;((with_reducible refine(trim_any wr w.heap.size _ (k+q) (k+q) hs hS).mono ?_);rintro e w4 ⟨g4,A4,c4,rfl,hm4,hb4⟩))
   go_ret
   rw[HV.out]at hm4;rw[HV.out];exact Ret1.of hm4 hb4 HB.out
theorem mul_any (w:World)(b1 b2:Nat)(A1 A2:Option Addr)(n m c1 c2:Nat)(xs ys:List Nat)(h1:Sl w b1 A1 n c1 xs)(h2:Sl w b2 A2 m c2 ys)(hn:n<=549755813888)(hm:m<=549755813888):
  Calls Tryz.prog 120 #[.slice A1 n c1,.slice A2 m c2] w (Ret1 w (limbs (val xs*val ys))):=by
 have:=mul_core w b1 b2 A1 A2 n m c1 c2 _ _ _ _ (cut_sl h1) (cut_sl h2) (cut_any w b1 A1 n c1 xs h1) (cut_any w b2 A2 m c2 ys h2)
  (by have:=val_limbs_le h1.lim;have:=h1.len;omega) (by have:=val_limbs_le h2.lim;have:=h2.len;omega)
 rwa [val_limbs,val_limbs]at this
def Rd (w:World)(A:Option Addr)(n c v:Nat):Prop:=∃b xs,Sl w b A n c xs/\val xs=v
def Nm (w:World)(A:Option Addr)(n c v:Nat):Prop:=∃b,Sl w b A n c (limbs v)
theorem Nm.rd{w:World}{A:Option Addr}{n c v:Nat}(h:Nm w A n c v):Rd w A n c v:=by
 obtain⟨b,h⟩:=h;exact⟨b,_,h,val_limbs v⟩
theorem Rd.below{w w':World}{A:Option Addr}{n c v:Nat}(h:Rd w A n c v)(hb:Below w.heap.size w w'):Rd w' A n c v:=by
 obtain⟨b,xs,h,e⟩:=h;exact⟨b,xs,h.below hb,e⟩
abbrev Rd.b:= @Rd.below
theorem Nm.below{w w':World}{A:Option Addr}{n c v:Nat}(h:Nm w A n c v)(hb:Below w.heap.size w w'):Nm w' A n c v:=by
 obtain⟨b,h⟩:=h;exact⟨b,h.below hb⟩
abbrev Nm.b:= @Nm.below
theorem Nm.len{w:World}{A:Option Addr}{n c v:Nat}(h:Nm w A n c v):(limbs v).length=n:=by
 obtain⟨b,h⟩:=h;exact h.len
theorem Nm.zero{w:World}:Nm w none 0 0 0:=⟨0,by rw[limbs_zero];exact Sl.nil⟩
theorem Rd.bound{w:World}{A:Option Addr}{n c v:Nat}(h:Rd w A n c v):v < 4294967296^n:=by
 obtain⟨b,xs,h,rfl⟩:=h
 have:=val_lt h.lim
 rwa [h.len]at this
theorem Rd.big{w:World}{A:Option Addr}{n c v:Nat}(h:Rd w A n c v):n<=1099511627776:=by
 obtain⟨b,xs,h,rfl⟩:=h;exact h.big
theorem Rd.limbs_le{w:World}{A:Option Addr}{n c v:Nat}(h:Rd w A n c v):(limbs v).length<=n:=limbs_length_le h.bound
theorem Rd.blen_le{w:World}{A:Option Addr}{n c v:Nat}(h:Rd w A n c v):blen v<=n*32:=by
 apply blen_mono_le
 rw[<-pow32];exact h.bound
theorem Made.nm{w w':World}{v g c:Nat}{A:Option Addr}(h:Made w w' (limbs v) g A c):Nm w' A (limbs v).length c v:=⟨g,h.1⟩
theorem Out.nm{w':World}{v c:Nat}{A:Option Addr}(h:Out w' (limbs v) A c):Nm w' A (limbs v).length c v:=by
 obtain⟨b,h,_⟩:=h;exact⟨b,h⟩
def P1 (w:World)(K v:Nat)(e:Ending)(w':World):Prop:=∃A n c,e= .returned (.slice A n c)/\Nm w' A n c v/\n<=K/\Below w.heap.size w w'
def P1T (w:World)(K v:Nat)(e:Ending)(w':World):Prop:=∃A n c,e= .returned (.tuple #[.slice A n c,.bool true])/\Nm w' A n c v/\n<=K/\Below w.heap.size w w'
def P1B (w:World)(K v:Nat)(t:Bool)(e:Ending)(w':World):Prop:=∃A n c,e= .returned (.tuple #[.slice A n c,.bool t])/\Nm w' A n c v/\n<=K/\Below w.heap.size w w'
def P3 (w:World)(K q r:Nat)(e:Ending)(w':World):Prop:=
 ∃A1 n1 c1 A2 n2 c2,e= .returned (.tuple #[.slice A1 n1 c1,.slice A2 n2 c2,.bool true])/\Nm w' A1 n1 c1 q/\Nm w' A2 n2 c2 r/\n1<=K/\n2<=K/\Below w.heap.size w w'
def PI (w:World)(z:Int)(e:Ending)(w':World):Prop:=e= .returned (.int .i64 z)/\Below w.heap.size w w'
theorem limbs_add_len{a b n m:Nat}(ha:a < 4294967296^n)(hb:b < 4294967296^m):(limbs (a+b)).length<=n+m+1:=by
 apply limbs_length_le
 have h1:=Nat.pow_le_pow_right (n:=4294967296) (by decide) (show n<=n+m by omega)
 have h2:=Nat.pow_le_pow_right (n:=4294967296) (by decide) (show m<=n+m by omega)
 rw[Nat.pow_succ]
 omega
theorem limbs_mul_len{a b n m:Nat}(ha:a < 4294967296^n)(hb:b < 4294967296^m):(limbs (a*b)).length<=n+m:=by
 apply limbs_length_le
 rw[Nat.pow_add];exact Nat.mul_lt_mul'' ha hb
section
variable {w:World} {A1 A2:Option Addr} {n m c1 c2 a b:Nat}
theorem vTrim (h1:Rd w A1 n c1 a):Calls Tryz.prog 124 #[.slice A1 n c1] w (P1 w n a):=by
 have hl:=h1.limbs_le;obtain⟨b1,xs,h1,rfl⟩:=h1;refine(trim_any w b1 A1 n c1 xs h1).mono ?_;rintro e w' ⟨g,A,c,rfl,hm,hb⟩;exact⟨A,_,c,rfl,hm.nm,hl,hb⟩
theorem vAdd (h1:Rd w A1 n c1 a)(h2:Rd w A2 m c2 b)(hn:n<=1073741824)(hm:m<=1073741824):Calls Tryz.prog 191 #[.slice A1 n c1,.slice A2 m c2] w (P1 w (n+m+1) (a+b)):=by
 have hl:=limbs_add_len h1.bound h2.bound;obtain⟨b1,xs,h1,rfl⟩:=h1;obtain⟨b2,ys,h2,rfl⟩:=h2;refine(add_any w b1 b2 A1 A2 n m c1 c2 xs ys h1 h2 (by omega) (by omega)).mono ?_;rintro e w' ⟨g,A,c,rfl,hm,hb⟩;exact⟨A,_,c,rfl,hm.nm,hl,hb⟩
theorem vMul (h1:Rd w A1 n c1 a)(h2:Rd w A2 m c2 b)(hn:n<=1073741824)(hm:m<=1073741824):Calls Tryz.prog 120 #[.slice A1 n c1,.slice A2 m c2] w (P1 w (n+m) (a*b)):=by
 have hl:=limbs_mul_len h1.bound h2.bound;obtain⟨b1,xs,h1,rfl⟩:=h1;obtain⟨b2,ys,h2,rfl⟩:=h2;refine(mul_any w b1 b2 A1 A2 n m c1 c2 xs ys h1 h2 (by omega) (by omega)).mono ?_;rintro e w' ⟨g,A,c,rfl,hm,hb⟩;exact⟨A,_,c,rfl,hm.nm,hl,hb⟩
theorem vSub (h1:Rd w A1 n c1 a)(h2:Rd w A2 m c2 b)(h:b<=a):Calls Tryz.prog 192 #[.slice A1 n c1,.slice A2 m c2] w (P1T w n (a-b)):=by
 have hl:=Nat.le_trans (limbs_length_mono (Nat.sub_le a b)) h1.limbs_le;obtain⟨b1,xs,h1,rfl⟩:=h1;obtain⟨b2,ys,h2,rfl⟩:=h2;refine(sub_ge w b1 b2 A1 A2 n m c1 c2 xs ys h1 h2 h).mono ?_;rintro e w' ⟨g,A,c,rfl,hm,hb⟩;exact⟨A,_,c,rfl,hm.nm,hl,hb⟩
theorem vSub_lt (h1:Rd w A1 n c1 a)(h2:Rd w A2 m c2 b)(h:a < b):Calls Tryz.prog 192 #[.slice A1 n c1,.slice A2 m c2] w fun e w'=>e= .returned (.tuple #[.slice none 0 0,.bool false])/\Below w.heap.size w w':=by
 obtain⟨b1,xs,h1,rfl⟩:=h1;obtain⟨b2,ys,h2,rfl⟩:=h2;refine(sub_lt w b1 b2 A1 A2 n m c1 c2 xs ys h1 h2 h).mono ?_;rintro e w' ⟨rfl,q,rfl⟩;exact⟨rfl,below_drewN (Below.refl _ _) q⟩
theorem vCmp (h1:Rd w A1 n c1 a)(h2:Rd w A2 m c2 b):Calls Tryz.prog 123 #[.slice A1 n c1,.slice A2 m c2] w (PI w (cmpI a b)):=by
 obtain⟨b1,xs,h1,rfl⟩:=h1;obtain⟨b2,ys,h2,rfl⟩:=h2;refine(cmp_any w b1 b2 A1 A2 n m c1 c2 xs ys h1 h2).mono ?_;rintro e w' ⟨rfl,q,rfl⟩;exact⟨rfl,below_drewN (Below.refl _ _) q⟩
theorem vDiv (h1:Rd w A1 n c1 a)(h2:Rd w A2 m c2 b)(hn:n<=1073741824)(h0:b≠0):Calls Tryz.prog 190 #[.slice A1 n c1,.slice A2 m c2] w (P3 w n (a/b) (a%b)):=by
 have hl1:=Nat.le_trans (limbs_length_mono (Nat.div_le_self a b)) h1.limbs_le;have hl2:=Nat.le_trans (limbs_length_mono (Nat.mod_le a b)) h1.limbs_le;obtain⟨b1,xs,h1,rfl⟩:=h1;obtain⟨b2,ys,h2,rfl⟩:=h2;refine(div_any w b1 b2 A1 A2 n m c1 c2 xs ys h1 h2 (by omega) h0).mono ?_;rintro e w' ⟨A3,c3,A4,c4,rfl,o3,o4,hb⟩;exact⟨A3,_,c3,A4,_,c4,rfl,o3.nm,o4.nm,hl1,hl2,hb⟩
theorem vShr (z:Int)(h1:Rd w A1 n c1 a)(hz:z<=9223372036854775807):Calls Tryz.prog 249 #[.slice A1 n c1,.int .i64 z] w (P1 w n (a/2^z.toNat)):=by
 have hl:=Nat.le_trans (limbs_length_mono (Nat.div_le_self a (2^z.toNat))) h1.limbs_le;obtain⟨b1,xs,h1,rfl⟩:=h1;refine(shr_any w b1 A1 n c1 xs z h1 hz).mono ?_;rintro e w' ⟨g,A,c,rfl,hm,hb⟩;exact⟨A,_,c,rfl,hm.nm,hl,hb⟩
theorem vAddE{r:Nat}(h1:Rd w A1 n c1 a)(h2:Rd w A2 m c2 b)(hn:n<=1073741824)(hm:m<=1073741824)(hr:a+b=r):Calls Tryz.prog 191 #[.slice A1 n c1,.slice A2 m c2] w (P1 w (n+m+1) r):=hr▸vAdd h1 h2 hn hm
theorem vCmpE{z:Int}(h1:Rd w A1 n c1 a)(h2:Rd w A2 m c2 b)(hz:cmpI (a:Int) (b:Int)=z):Calls Tryz.prog 123 #[.slice A1 n c1,.slice A2 m c2] w (PI w z):=hz▸vCmp h1 h2
theorem vDivE{q r:Nat}(h1:Rd w A1 n c1 a)(h2:Rd w A2 m c2 b)(hn:n<=1073741824)(h0:b≠0)(hq:a/b=q)(hr:a%b=r):Calls Tryz.prog 190 #[.slice A1 n c1,.slice A2 m c2] w (P3 w n q r):=by
 subst hq;subst hr;exact vDiv h1 h2 hn h0
theorem vShrE{z:Int}{r:Nat}(h1:Rd w A1 n c1 a)(hz:z<=9223372036854775807)(hr:a/2^z.toNat=r):Calls Tryz.prog 249 #[.slice A1 n c1,.int .i64 z] w (P1 w n r):=hr▸vShr z h1 hz
theorem vShrN{s r:Nat}(h1:Rd w A1 n c1 a)(hs:s<=9223372036854775807)(hr:a/2^s=r):Calls Tryz.prog 249 #[.slice A1 n c1,.int .i64 (s:Int)] w (P1 w n r):=
 vShrE h1 (by omega) (by rw[Int.toNat_natCast];exact hr)
end
theorem one_rd (W:World):Rd (W.alloc (.cells #[.int .u32 1] 92)) (some ⟨W.heap.size,0,none⟩) 1 1 1:=⟨_,_,one_limb W,by simp[val]⟩
def sg (s:Bool)(a:Nat):Int:=if s then -(a:Int)else a
theorem sg_true (a:Nat):sg true a= -(a:Int):=rfl
theorem sg_false (a:Nat):sg false a=a:=rfl
theorem sg_natAbs (s:Bool)(a:Nat):(sg s a).natAbs=a:=by cases s <;> simp[sg]
theorem sg_zero (s:Bool):sg s 0=0:=by cases s <;> rfl
theorem sg_lt (s:Bool)(a:Nat):decide (sg s a < 0)=(s && decide (0 < a)):=by cases s <;> simp[sg] <;> omega
def Wr (w:World)(s:Bool)(A:Option Addr)(n c:Nat)(z:Int):Prop:=∃a,Rd w A n c a/\sg s a=z
def Wn (w:World)(s:Bool)(A:Option Addr)(n c:Nat)(z:Int):Prop:=Nm w A n c z.natAbs/\s=decide (z < 0)
theorem Wn.wr{w:World}{s:Bool}{A:Option Addr}{n c:Nat}{z:Int}(h:Wn w s A n c z):Wr w s A n c z:=by
 obtain⟨h,rfl⟩:=h;refine⟨_,h.rd,?_⟩
 by_cases e:z < 0
 ·simp[sg,e];omega
 ·simp[sg,e];omega
theorem Wr.below{w w':World}{s:Bool}{A:Option Addr}{n c:Nat}{z:Int}(h:Wr w s A n c z)(hb:Below w.heap.size w w'):Wr w' s A n c z:=by
 obtain⟨a,h,e⟩:=h;exact⟨a,h.below hb,e⟩
abbrev Wr.b:= @Wr.below
theorem Wn.below{w w':World}{s:Bool}{A:Option Addr}{n c:Nat}{z:Int}(h:Wn w s A n c z)(hb:Below w.heap.size w w'):Wn w' s A n c z:=⟨h.1.below hb,h.2⟩
abbrev Wn.b:= @Wn.below
theorem Wr.rd{w:World}{s:Bool}{A:Option Addr}{n c:Nat}{z:Int}(h:Wr w s A n c z):Rd w A n c z.natAbs:=by
 obtain⟨a,h,rfl⟩:=h;rw[sg_natAbs];exact h
theorem Wr.eq{w:World}{s:Bool}{A:Option Addr}{n c:Nat}{z:Int}(h:Wr w s A n c z):sg s z.natAbs=z:=by
 obtain⟨a,h,rfl⟩:=h;rw[sg_natAbs]
theorem Nm.pos{w:World}{A:Option Addr}{n c v:Nat}(h:Nm w A n c v):0 < n↔0 < v:=by
 have hl:=h.len
 by_cases e:v=0
 ·subst e;rw[limbs_zero]at hl;simp at hl;omega
 ·rw[limbs_pos e]at hl;simp at hl;omega
theorem Nm.wn{w:World}{A:Option Addr}{n c a:Nat}(s:Bool)(h:Nm w A n c a):Wn w (s && decide (0 < n)) A n c (sg s a):=by
 refine⟨by rw[sg_natAbs];exact h,?_⟩
 rw[sg_lt]
 congr 1
 exact decide_eq_decide.2 h.pos
theorem Wn.zero{w:World}:Wn w false none 0 0 0:=⟨Nm.zero,rfl⟩
def W1 (w:World)(K:Nat)(z:Int)(e:Ending)(w':World):Prop:=∃s A n c,e= .returned (.agg #[.bool s,.slice A n c])/\Wn w' s A n c z/\n<=K/\Below w.heap.size w w'
def PB (w:World)(t:Bool)(e:Ending)(w':World):Prop:=e= .returned (.bool t)/\Below w.heap.size w w'
theorem ret_bool{a b:Bool}(h:a=b):Ending.returned (.bool a)= .returned (.bool b):=by rw[h]
theorem bcell{W w1:World}(hb:Below W.heap.size W w1):(∀b o,b < W.heap.size->w1.cell? ⟨b,o,none⟩=W.cell? ⟨b,o,none⟩)/\(∀b o,b < W.heap.size->w1.frozen? ⟨b,o,none⟩=W.frozen? ⟨b,o,none⟩):=
 ⟨fun b o h=>hb.cell (p:=⟨b,o,none⟩) h,fun b o h=>hb.frozen (p:=⟨b,o,none⟩) h⟩
theorem bel1 (w:World)(a:Obj):Below w.heap.size w (w.alloc a):=alloc_below _ _
theorem bel2 (w:World)(a b:Obj):Below w.heap.size w ((w.alloc a).alloc b):=(bel1 w a).alloc (by simp) _
theorem bel3 (w:World)(a b c:Obj):Below w.heap.size w (((w.alloc a).alloc b).alloc c):=(bel2 w a b).alloc (by simp;omega) _
theorem bel4 (w:World)(a b c d:Obj):Below w.heap.size w ((((w.alloc a).alloc b).alloc c).alloc d):=(bel3 w a b c).alloc (by simp;omega) _
theorem bt{w w1 w2:World}(h:Below w.heap.size w w1)(k:Below w1.heap.size w1 w2):Below w.heap.size w w2:=h.trans (k.mono h.size)
theorem st2{B:Nat}{a w:World}(h:Below B a w){b o1 o2:Nat}(hp:B<=b)(u v:Value):Below B a ((w.setCell ⟨b,o1,none⟩ u).setCell ⟨b,o2,none⟩ v):=(h.setCell (p:=⟨b,o1,none⟩) hp u).setCell (p:=⟨b,o2,none⟩) hp v
def Bx (w:World)(g:Nat)(s:Bool)(A:Option Addr)(n c:Nat):Prop:=w.heap[g]?=some (.cells #[.bool s,.slice A n c] 27 (0,0))
section
variable {w w':World} {g:Nat} {s:Bool} {A:Option Addr} {n c:Nat}
theorem Bx.lt (h:Bx w g s A n c):g < w.heap.size:=by
 rcases Nat.lt_or_ge g w.heap.size with hlt | hge
 ·exact hlt
 ·unfold Bx at h;rw[Array.getElem?_eq_none hge]at h;cases h
theorem Bx.keep (h:Bx w g s A n c)(hk:w'.heap[g]?=w.heap[g]?):Bx w' g s A n c:=hk.trans h
theorem Bx.below (h:Bx w g s A n c)(hb:Below w.heap.size w w'):Bx w' g s A n c:=h.keep (hb.block g h.lt)
abbrev Bx.b:= @Bx.below
theorem Bx.new (w:World)(s:Bool)(A:Option Addr)(n c:Nat):Bx (w.alloc (.cells #[.bool s,.slice A n c] 27)) w.heap.size s A n c:=heap_alloc_new w _
theorem Bx.newAt (w:World){g:Nat}(hg:w.heap.size=g)(s:Bool)(A:Option Addr)(n c:Nat):Bx (w.alloc (.cells #[.bool s,.slice A n c] 27)) g s A n c:=hg▸heap_alloc_new w _
theorem Bx.cell0 (h:Bx w g s A n c):w.cell? ⟨g,0,none⟩=some (.bool s):=by rw[cell_of_row w g 0 _ _ (0,0) h];rfl
theorem Bx.cell1 (h:Bx w g s A n c):w.cell? ⟨g,1,none⟩=some (.slice A n c):=by rw[cell_of_row w g 1 _ _ (0,0) h];rfl
theorem Bx.frozen (h:Bx w g s A n c)(i:Nat):w.frozen? ⟨g,i,none⟩=false:=by
 unfold Bx at h
 simp[World.frozen?,h]
theorem Bx.no32 (h:Bx w g s A n c){o:Nat}{x:Int}(hc:w.cell? ⟨g,o,none⟩=some (.int .u32 x)):False:=by
 rw[cell_of_row w g o _ _ (0,0) h]at hc
 match o,hc with
 | 0,hc=>simp at hc
 | 1,hc=>simp at hc
 | k+2,hc=>simp at hc
theorem heap_st2 (w:World){g k o1 o2:Nat}(h:k≠g)(u v:Value):((w.setCell ⟨g,o1,none⟩ u).setCell ⟨g,o2,none⟩ v).heap[k]?=w.heap[k]?:=by
 rw[Below.heap_setCell _ _ _ _ h,Below.heap_setCell _ _ _ _ h]
theorem Bx.far (h:Bx w g s A n c){k:Nat}(hk:g≠k)(u v:Value):Bx ((w.setCell ⟨k,0,none⟩ u).setCell ⟨k,1,none⟩ v) g s A n c:=h.keep (heap_st2 w hk u v)
theorem sl_st{b:Nat}{B:Option Addr}{m d:Nat}{xs:List Nat}(h:Sl w b B m d xs)(X:Bx w g s A n c)(u v:Value):Sl ((w.setCell ⟨g,0,none⟩ u).setCell ⟨g,1,none⟩ v) b B m d xs:=
 h.keep fun hm=>heap_st2 w (fun e=>by
  obtain⟨o,_,hc⟩:=h.at hm
  have:=hc 0 hm
  rw[e]at this;exact X.no32 this) u v
theorem Nm.st{B:Option Addr}{m d a:Nat}(h:Nm w B m d a)(X:Bx w g s A n c)(u v:Value):Nm ((w.setCell ⟨g,0,none⟩ u).setCell ⟨g,1,none⟩ v) B m d a:=by
 obtain⟨b,h⟩:=h;exact⟨b,sl_st h X u v⟩
theorem Wn.st{t:Bool}{B:Option Addr}{m d:Nat}{z:Int}(h:Wn w t B m d z)(X:Bx w g s A n c)(u v:Value):Wn ((w.setCell ⟨g,0,none⟩ u).setCell ⟨g,1,none⟩ v) t B m d z:=⟨h.1.st X u v,h.2⟩
theorem Bx.drew (h:Bx w g s A n c):Bx w.drew g s A n c:=h
theorem Nm.drew{a:Nat}(h:Nm w A n c a):Nm w.drew A n c a:=h
theorem Rd.drew{a:Nat}(h:Rd w A n c a):Rd w.drew A n c a:=h
theorem Wn.drew{z:Int}(h:Wn w s A n c z):Wn w.drew s A n c z:=h
theorem Wr.drew{z:Int}(h:Wr w s A n c z):Wr w.drew s A n c z:=h
end
theorem wSigned{w:World}{A:Option Addr}{n c a:Nat}(s:Bool)(h:Nm w A n c a):Calls Tryz.prog 121 #[.bool s,.slice A n c] w (W1 w n (sg s a)):=by
 have HW:=Lib.hid (h.wn s);have hbig:=h.rd.big;clear h
 cases s
 ·go_enter Tryz.func121,Tryz.ntmps121
  go_wp2;exact bodyPost_ret (v:= .agg #[.bool false,.slice A n c]) (by simp[results,Tryz.results121,go_sem]) rfl ⟨false,A,n,c,rfl,HW.out.below (bel1 _ _),Nat.le_refl _,bel1 _ _⟩
 ·by_cases h0:0 < n
  ·have e:decide (0 < n)=true:=by simpa using h0
   go_enter Tryz.func121,Tryz.ntmps121
   go_wp2;exact bodyPost_ret (v:= .agg #[.bool true,.slice A n c]) (by simp[results,Tryz.results121,go_sem]) rfl ⟨true,A,n,c,rfl,by have:=HW.out;rw[e]at this;exact this.below (bel1 _ _),Nat.le_refl _,bel1 _ _⟩
  ·obtain rfl:n=0:=by omega
   go_enter Tryz.func121,Tryz.ntmps121
   go_wp2;exact bodyPost_ret (v:= .agg #[.bool false,.slice A 0 c]) (by simp[results,Tryz.results121,go_sem]) rfl ⟨false,A,0,c,rfl,HW.out.below (bel1 _ _),Nat.le_refl _,bel1 _ _⟩
theorem wMake{w:World}{A:Option Addr}{n c a:Nat}(s:Bool)(h:Rd w A n c a):Calls Tryz.prog 58 #[.bool s,.slice A n c] w (W1 w n (sg s a)):=by
 go_enter Tryz.func58,Tryz.ntmps58
 go_wp2_with (first
  | (go_at_call 124;((with_reducible refine(vTrim (h.below (bel1 _ _))).mono ?_);rintro e w1 ⟨A1,n1,c1,rfl,h1,k1,B1⟩))
  | (go_at_call 121;((with_reducible refine(wSigned s h1).mono ?_);rintro e w2 ⟨s2,A2,n2,c2,rfl,h2,k2,B2⟩;obtain⟨hc,hf⟩:=bcell (bt B1 B2))))
 have X:=(Bx.new w false none 0 0).below (bt B1 B2);exact bodyPost_ret (v:= .agg #[.bool s2,.slice A2 n2 c2]) (by simp[results,Tryz.results58,go_sem,X.cell0,X.cell1]) rfl ⟨s2,A2,n2,c2,rfl,h2.st X _ _,by omega,st2 (bt (bel1 _ _) (bt B1 B2)) (Nat.le_refl _) _ _⟩
theorem wNeg{w:World}{A:Option Addr}{n c:Nat}{s:Bool}{z r:Int}(h:Wr w s A n c z)(hr: -z=r):Calls Tryz.prog 57 #[.agg #[.bool s,.slice A n c]] w (W1 w n r):=by
 obtain⟨a,h,e⟩:=h
 have HE:Hid (sg (!s) a=r):=Lib.hid (by rw[<-hr,<-e];cases s <;> simp[sg])
 clear hr e
 go_enter Tryz.func57,Tryz.ntmps57
 go_wp2_with (first
  | (go_at_call 58;((with_reducible refine(wMake _ (h.below (bel2 _ _ _))).mono ?_);rintro e w2 ⟨s2,A2,n2,c2,rfl,h2,k2,B2⟩;obtain⟨hc,hf⟩:=bcell B2)))
 have X:Bx w2 (w.heap.size+1) false none 0 0:=(Bx.newAt _ (by simp) false none 0 0).below B2
 exact bodyPost_ret (v:= .agg #[.bool s2,.slice A2 n2 c2]) (by simp[results,Tryz.results57,go_sem,X.cell0,X.cell1]) rfl ⟨s2,A2,n2,c2,rfl,HE.out▸h2.st X _ _,by omega,st2 (bt (bel2 _ _ _) B2) (by simp) _ _⟩
section
variable {w:World} {A1 A2:Option Addr} {n m c1 c2 a b:Nat}
theorem vLen (h1:Rd w A1 n c1 a):Calls Tryz.prog 188 #[.slice A1 n c1] w (PI w (blen a:Nat)):=by
 obtain⟨b1,xs,h1,rfl⟩:=h1;refine(len_any w b1 A1 n c1 xs h1).mono ?_;rintro e w' ⟨rfl,rfl⟩;exact⟨rfl,Below.refl _ _⟩
theorem vLenE{z:Int}(h1:Rd w A1 n c1 a)(hz:((blen a:Nat):Int)=z):Calls Tryz.prog 188 #[.slice A1 n c1] w (PI w z):=hz▸vLen h1
end
theorem cmpI_self (a:Nat):cmpI (a:Int) (a:Int)=0:=cmpI_eq rfl
theorem cmpI_bd (a b:Int): -1<=cmpI a b/\cmpI a b<=1:=by unfold cmpI;split <;> (try split) <;> omega
theorem blen_eq_zero{a:Nat}:blen a=0↔a=0:=by
 constructor
 ·intro h
  have:=blen_lt a
  rw[h]at this
  simpa using this
 ·rintro rfl;rfl
def mayB (s:Bool)(n a:Nat):Bool:=decide ((limbs a).length=n) && (decide (0 < n) || !s)
theorem mayB_zero (s:Bool){a:Nat}(h:a < 4294967296^0):mayB s 0 a=!s:=by
 obtain rfl:a=0:=by simpa using h
 simp[mayB,limbs_zero]
theorem mayB_pos (s:Bool){n:Nat}{xs:List Nat}(hl:Lim xs)(h:xs.length=n)(hn:0 < n):mayB s n (val xs)=(((xs.getD (n-1) 0:Nat):Int) !=0):=by
 have h1:decide (0 < n)=true:=by simpa using hn
 unfold mayB
 rw[h1,Bool.true_or,Bool.and_true]
 by_cases e:xs.getD (n-1) 0=0
 ·rw[e]
  have:(limbs (val xs)).length<=n-1:=by
   apply limbs_length_le
   have e3:val (xs.drop (n-1))=0:=by rw[val_drop (by omega),e,show n-1+1=n by omega,List.drop_of_length_le (by omega)];rfl
   have e2:=val_take_drop xs (k:=n-1) (by omega);rw[e3,Nat.mul_zero,Nat.add_zero]at e2;rw[e2]
   have:=val_lt (hl.take (n-1))
   rwa [List.length_take,h,Nat.min_eq_left (by omega)]at this
  simp
  omega
 ·have:=take_eq_limbs hl (k:=n) (by omega) (by rw[List.drop_of_length_le (by omega)];rfl) (fun _=>e)
  have hlen:(limbs (val xs)).length=n:=by rw[<-this,List.length_take];omega
  rw[hlen]
  have e':((xs.getD (n-1) 0:Nat):Int)≠0:=by omega
  simp only[decide_true];exact(bne_iff_ne.2 e').symm
theorem wMay{w:World}{A:Option Addr}{n c a:Nat}{s:Bool}{r:Bool}(h:Rd w A n c a)(hr:mayB s n a=r):Calls Tryz.prog 272 #[.agg #[.bool s,.slice A n c]] w (PB w r):=by
 rcases Nat.eq_zero_or_pos n with e | hn
 ·subst e;rw[mayB_zero s h.bound]at hr;subst hr
  go_enter Tryz.func272,Tryz.ntmps272
  go_wp2
  go_ret
  exact⟨rfl,bel1 _ _⟩
 ·obtain⟨b,xs,h,rfl⟩:=h;rw[mayB_pos s h.lim h.len hn]at hr;have hbig:=h.big;have hcap:=h.cap;have hlt:=h.lt hn;obtain⟨o,rfl,hcell⟩:=h.at hn;have hck:=hcell (n-1) (by omega);clear hcell h
  have hi:((n:Int)-1).toNat=n-1:=by omega
  revert hr hck
  generalize xs.getD (n-1) 0=x
  intro hr hck
  have HR:=Lib.hid hr
  have hq:((n:Int)==0)=false:=by
   have:(n:Int)≠0:=by omega
   simpa using this
  have hne:b≠w.heap.size:=by omega
  clear hr
  go_enter Tryz.func272,Tryz.ntmps272
  go_wp2
  go_ret
  exact⟨ret_bool HR.out,bel1 _ _⟩
def Bo (w:World)(g:Nat)(cs:Array Value)(T:TypeId):Prop:=w.heap[g]?=some (.cells cs T (0,0))
def no32 (v:Value):Bool:=match v with
 | .int .u32 _=>false
 | _=>true
section
variable {w w':World} {g:Nat} {cs:Array Value} {T:TypeId}
theorem Bo.lt (h:Bo w g cs T):g < w.heap.size:=by
 rcases Nat.lt_or_ge g w.heap.size with hlt | hge
 ·exact hlt
 ·unfold Bo at h;rw[Array.getElem?_eq_none hge]at h;cases h
theorem Bo.keep (h:Bo w g cs T)(hk:w'.heap[g]?=w.heap[g]?):Bo w' g cs T:=hk.trans h
theorem Bo.below (h:Bo w g cs T)(hb:Below w.heap.size w w'):Bo w' g cs T:=h.keep (hb.block g h.lt)
abbrev Bo.b:= @Bo.below
theorem Bo.drew (h:Bo w g cs T):Bo w.drew g cs T:=h
theorem Bo.new (w:World)(cs:Array Value)(T:TypeId):Bo (w.alloc (.cells cs T)) w.heap.size cs T:=heap_alloc_new w _
theorem Bo.newAt (w:World){g:Nat}(hg:w.heap.size=g)(cs:Array Value)(T:TypeId):Bo (w.alloc (.cells cs T)) g cs T:=hg▸heap_alloc_new w _
theorem Bo.cell (h:Bo w g cs T)(i:Nat):w.cell? ⟨g,i,none⟩=cs[i]?:=by rw[cell_of_row w g i _ _ (0,0) h]
theorem Bo.frozen (h:Bo w g cs T)(i:Nat):w.frozen? ⟨g,i,none⟩=false:=by
 unfold Bo at h
 simp[World.frozen?,h]
theorem Bo.set (h:Bo w g cs T)(i:Nat)(v:Value):Bo (w.setCell ⟨g,i,none⟩ v) g (cs.setIfInBounds i v) T:=by
 unfold Bo at h|-
 simp[World.setCell,Array.getElem?_modify,h]
theorem Bo.no (h:Bo w g cs T)(hn:cs.all no32=true){o:Nat}{x:Int}(hc:w.cell? ⟨g,o,none⟩=some (.int .u32 x)):False:=by
 rw[h.cell]at hc;rw[Array.all_eq_true]at hn;obtain⟨hlt,he⟩:=Array.getElem?_eq_some_iff.1 hc
 have:=hn o hlt
 rw[he]at this
 cases this
theorem sl_store{b:Nat}{B:Option Addr}{m d:Nat}{xs:List Nat}(h:Sl w b B m d xs)(X:Bo w g cs T)(hn:cs.all no32=true)(i:Nat)(v:Value):Sl (w.setCell ⟨g,i,none⟩ v) b B m d xs:=
 h.keep fun hm=>Below.heap_setCell w _ _ _ (fun e=>by
  obtain⟨o,_,hc⟩:=h.at hm
  have:=hc 0 hm
  rw[e]at this;exact X.no hn this)
theorem Nm.store{B:Option Addr}{m d a:Nat}(h:Nm w B m d a)(X:Bo w g cs T)(hn:cs.all no32=true)(i:Nat)(v:Value):Nm (w.setCell ⟨g,i,none⟩ v) B m d a:=by
 obtain⟨b,h⟩:=h;exact⟨b,sl_store h X hn i v⟩
theorem Wn.store{s:Bool}{B:Option Addr}{m d:Nat}{z:Int}(h:Wn w s B m d z)(X:Bo w g cs T)(hn:cs.all no32=true)(i:Nat)(v:Value):Wn (w.setCell ⟨g,i,none⟩ v) s B m d z:=⟨h.1.store X hn i v,h.2⟩
theorem below_store{B:Nat}{a:World}(h:Below B a w){b:Nat}(hp:B<=b)(i:Nat)(u:Value):Below B a (w.setCell ⟨b,i,none⟩ u):=h.setCell (p:=⟨b,i,none⟩) hp u
end
theorem bel5 (w:World)(a b c d e:Obj):Below w.heap.size w (((((w.alloc a).alloc b).alloc c).alloc d).alloc e):=(bel4 w a b c d).alloc (by simp;omega) _
def rt:Nat->Nat
 | 0=>0
 | n+1=>if (rt n+1)*(rt n+1)<=n+1 then rt n+1 else rt n
section
variable {w:World} {A1 A2:Option Addr} {n m c1 c2 a b:Nat}
theorem limbs_shl_len{a n s:Nat}(ha:a < 4294967296^n):(limbs (a*2^s)).length<=n+s/32+1:=by
 have:=limbs_mul_len (m:=s/32+1) (b:=2^s) ha (by rw[pow32];exact Nat.pow_lt_pow_right (by decide) (by omega))
 omega
theorem vShl (s:Nat)(h1:Rd w A1 n c1 a)(hn:n<=1073741824)(hs:s<=16777216):Calls Tryz.prog 119 #[.slice A1 n c1,.int .i64 (s:Int)] w (P1 w (n+s/32+1) (a*2^s)):=by
 have hl:=limbs_shl_len (s:=s) h1.bound;obtain⟨b1,xs,h1,rfl⟩:=h1;refine(shl_any w b1 A1 n c1 xs s h1 hs (by omega)).mono ?_;rintro e w' ⟨g,A,c,rfl,hm,hb⟩;exact⟨A,_,c,rfl,hm.nm,hl,hb⟩
theorem vShl_low (z:Int)(h1:Rd w A1 n c1 a)(hz:z < 1):Calls Tryz.prog 119 #[.slice A1 n c1,.int .i64 z] w (P1 w n a):=by
 have hl:=h1.limbs_le;obtain⟨b1,xs,h1,rfl⟩:=h1;refine(shl_low w b1 A1 n c1 xs z h1 hz).mono ?_;rintro e w' ⟨g,A,c,rfl,hm,hb⟩;exact⟨A,_,c,rfl,hm.nm,hl,hb⟩
theorem vShlE{s r:Nat}(h1:Rd w A1 n c1 a)(hn:n<=1073741824)(hs:s<=16777216)(hr:a*2^s=r):Calls Tryz.prog 119 #[.slice A1 n c1,.int .i64 (s:Int)] w (P1 w (n+s/32+1) r):=hr▸vShl s h1 hn hs
end
theorem wSum{w:World}{A B:Option Addr}{n c m d a b:Nat}(s t:Bool){r:Int}(h:Rd w A n c a)(k:Rd w B m d b)(hn:n<=1073741824)(hm:m<=1073741824)(hr:sg s a+sg t b=r):
  Calls Tryz.prog 126 #[.bool s,.slice A n c,.bool t,.slice B m d] w (W1 w (n+m+1) r):=by
 by_cases hs:s=t
 ·subst hs
  have HR:Hid (sg s (a+b)=r):=Lib.hid (by rw[<-hr];cases s <;> simp[sg] <;> omega)
  have hq:(s==s)=true:=by simp
  clear hr
  go_enter Tryz.func126,Tryz.ntmps126
  go_wp2_with (first
   | (go_at_call 191;((with_reducible refine(vAdd (h.below (bel1 _ _)) (k.below (bel1 _ _)) hn hm).mono ?_);rintro e w1 ⟨A1,n1,c1,rfl,h1,k1,B1⟩))
   | (go_at_call 121;((with_reducible refine(wSigned s h1).mono ?_);rintro e w2 ⟨s2,A2,n2,c2,rfl,h2,k2,B2⟩;obtain⟨hc,hf⟩:=bcell (bt B1 B2))))
  have X:=(Bx.new w false none 0 0).below (bt B1 B2);exact bodyPost_ret (v:= .agg #[.bool s2,.slice A2 n2 c2]) (by simp[results,Tryz.results126,go_sem,X.cell0,X.cell1]) rfl ⟨s2,A2,n2,c2,rfl,HR.out▸h2.st X _ _,by omega,st2 (bt (bel1 _ _) (bt B1 B2)) (Nat.le_refl _) _ _⟩
 ·have hq:(s==t)=false:=by simpa using hs
  have hs':t=!s:=by cases s <;> cases t <;> simp_all
  by_cases hab:b<=a
  ·have HR:Hid (sg s (a-b)=r):=Lib.hid (by rw[<-hr,hs'];cases s <;> simp[sg] <;> omega)
   have HS:=Lib.hid hs;clear hr hs' hs
   go_enter Tryz.func126,Tryz.ntmps126
   go_wp2_with (first
    | (go_at_call 192;((with_reducible refine(vSub (h.below (bel1 _ _)) (k.below (bel1 _ _)) hab).mono ?_);rintro e w1 ⟨A1,n1,c1,rfl,h1,k1,B1⟩))
    | (go_at_call 121;((with_reducible refine(wSigned s h1).mono ?_);rintro e w2 ⟨s2,A2,n2,c2,rfl,h2,k2,B2⟩;obtain⟨hc,hf⟩:=bcell (bt B1 B2))))
   have X:=(Bx.new w false none 0 0).below (bt B1 B2);exact bodyPost_ret (v:= .agg #[.bool s2,.slice A2 n2 c2]) (by simp[results,Tryz.results126,go_sem,X.cell0,X.cell1]) rfl ⟨s2,A2,n2,c2,rfl,HR.out▸h2.st X _ _,by omega,st2 (bt (bel1 _ _) (bt B1 B2)) (Nat.le_refl _) _ _⟩
  ·have HR:Hid (sg t (b-a)=r):=Lib.hid (by rw[<-hr,hs'];cases s <;> simp[sg] <;> omega)
   have HS:=Lib.hid hs
   have hlt:a < b:=by omega
   have hle:a<=b:=by omega
   clear hr hs' hs hab
   go_enter Tryz.func126,Tryz.ntmps126
   go_wp2_with (first
    | (go_at_call 192;((with_reducible refine(vSub_lt (h.below (bel1 _ _)) (k.below (bel1 _ _)) hlt).mono ?_);rintro e w0 ⟨rfl,B0⟩))
    | (go_at_call 192;((with_reducible refine(vSub (k.below (bt (bel1 _ _) B0)) (h.below (bt (bel1 _ _) B0)) hle).mono ?_);rintro e w1 ⟨A1,n1,c1,rfl,h1,k1,B1⟩))
    | (go_at_call 121;((with_reducible refine(wSigned t h1).mono ?_);rintro e w2 ⟨s2,A2,n2,c2,rfl,h2,k2,B2⟩;obtain⟨hc,hf⟩:=bcell (bt B0 (bt B1 B2)))))
   have X:=(Bx.new w false none 0 0).below (bt B0 (bt B1 B2));exact bodyPost_ret (v:= .agg #[.bool s2,.slice A2 n2 c2]) (by simp[results,Tryz.results126,go_sem,X.cell0,X.cell1]) rfl ⟨s2,A2,n2,c2,rfl,HR.out▸h2.st X _ _,by omega,st2 (bt (bel1 _ _) (bt B0 (bt B1 B2))) (Nat.le_refl _) _ _⟩
theorem wAdd{w:World}{A B:Option Addr}{n c m d:Nat}{s t:Bool}{x y r:Int}(h:Wr w s A n c x)(k:Wr w t B m d y)(hn:n<=1073741824)(hm:m<=1073741824)(hr:x+y=r):
  Calls Tryz.prog 60 #[.agg #[.bool s,.slice A n c],.agg #[.bool t,.slice B m d]] w (W1 w (n+m+1) r):=by
 obtain⟨a,h,e1⟩:=h;obtain⟨b,k,e2⟩:=k
 have HR:Hid (sg s a+sg t b=r):=Lib.hid (by rw[<-hr,e1,e2])
 clear hr e1 e2
 go_enter Tryz.func60,Tryz.ntmps60
 go_wp2_with (first
  | (go_at_call 126;((with_reducible refine(wSum s t (h.below (bel3 _ _ _ _)) (k.below (bel3 _ _ _ _)) hn hm HR.out).mono ?_);rintro e w2 ⟨s2,A2,n2,c2,rfl,h2,k2,B2⟩;obtain⟨hc,hf⟩:=bcell B2)))
 have X:Bx w2 (w.heap.size+2) false none 0 0:=(Bx.newAt _ (by simp) false none 0 0).below B2
 exact bodyPost_ret (v:= .agg #[.bool s2,.slice A2 n2 c2]) (by simp[results,Tryz.results60,go_sem,X.cell0,X.cell1]) rfl ⟨s2,A2,n2,c2,rfl,h2.st X _ _,k2,st2 (bt (bel3 _ _ _ _) B2) (by omega) _ _⟩
theorem wSub{w:World}{A B:Option Addr}{n c m d:Nat}{s t:Bool}{x y r:Int}(h:Wr w s A n c x)(k:Wr w t B m d y)(hn:n<=1073741824)(hm:m<=1073741824)(hr:x-y=r):
  Calls Tryz.prog 159 #[.agg #[.bool s,.slice A n c],.agg #[.bool t,.slice B m d]] w (W1 w (n+m+1) r):=by
 obtain⟨a,h,e1⟩:=h;obtain⟨b,k,e2⟩:=k
 have HR:Hid (sg s a+sg (!t) b=r):=Lib.hid (by rw[<-hr,<-e1,<-e2];cases t <;> simp[sg] <;> omega)
 clear hr e1 e2
 go_enter Tryz.func159,Tryz.ntmps159
 go_wp2_with (first
  | (go_at_call 126;((with_reducible refine(wSum s (!t) (h.below (bel3 _ _ _ _)) (k.below (bel3 _ _ _ _)) hn hm HR.out).mono ?_);rintro e w2 ⟨s2,A2,n2,c2,rfl,h2,k2,B2⟩;obtain⟨hc,hf⟩:=bcell B2)))
 have X:Bx w2 (w.heap.size+2) false none 0 0:=(Bx.newAt _ (by simp) false none 0 0).below B2
 exact bodyPost_ret (v:= .agg #[.bool s2,.slice A2 n2 c2]) (by simp[results,Tryz.results159,go_sem,X.cell0,X.cell1]) rfl ⟨s2,A2,n2,c2,rfl,h2.st X _ _,k2,st2 (bt (bel3 _ _ _ _) B2) (by omega) _ _⟩
def RowIn (w:World)(a:Option Addr)(len cap:Nat)(zs:List Int):Prop:=
 (a=none/\len=0/\cap=0/\zs=[])\/
 ∃x,a=some x/\len<=cap/\cap<=maxLen/\zs.length=cap/\(∀i,i < zs.length->w.cell? (x.add i)=some (.int .u32 (zs.getD i 0)))/\∀n ∈ zs,(Lit.int .u32 n).wf=true
theorem RowIn.len{w:World}{a:Option Addr}{len cap:Nat}{zs:List Int}(h:RowIn w a len cap zs):len<=9223372036854775807:=by
 rcases h with⟨_,rfl,_,_⟩ | ⟨x,_,h1,h2,_⟩
 ·omega
 ·unfold maxLen at h2;omega
