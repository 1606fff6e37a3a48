import Derived.Test.YtfpgjkbjbbgciaaGreatDoorMj20
set_option maxRecDepth 100000
set_option maxHeartbeats 8000000
namespace Go.Proofs.YtfpgjkbjbbgciaaGreatDoor
open Go.RowKit Sp
theorem zia(w:World)(b:Nat)(bv iv ov:Value)(m:Mc)(to:Int)(h:MchM w b bv iv ov m)(h0:0≤m.steps)(h1:m.steps≤100000):
  qC 269 #[.pointer (some ⟨b,0,none⟩),.bool true,.int .i64 to] w fun e w'=>e=.returned (.tuple #[])∧MchM w' b bv iv ov (m.goes to)∧w.grownBy w' (some b):=by
 go_enter Tryz.func269,Tryz.ntmps269;go_wp2_with(first|(go_at_call 228;refine(zeG w b bv iv ov m to h h0 h1).mono ?_;rintro e w2 ⟨rfl,c,a⟩))
 go_end0
 exact⟨rfl,c,a⟩
theorem zhl(w:World)(b:Nat)(bv iv ov:Value)(m:Mc)(to:Int)(h:MchM w b bv iv ov m)(h0:0≤m.steps)(h1:m.steps≤100000)(ha:0≤m.at')(hb:m.at'≤100000):
  qC 269 #[.pointer (some ⟨b,0,none⟩),.bool false,.int .i64 to] w fun e w'=>e=.returned (.tuple #[])∧MchM w' b bv iv ov (m.goes (m.at'+1))∧w.grownBy w' (some b):=by
 go_enter Tryz.func269,Tryz.ntmps269;go_wp2_with(first|(go_at_call 225;refine(zca w b bv iv ov m h h0 h1 ha hb).mono ?_;rintro e w2 ⟨rfl,c,a⟩))
 go_end0
 exact⟨rfl,c,a⟩
theorem zxB(w:World)(b:Nat)(bv iv ov:Value)(m:Mc)(to:Int)(h:MchM w b bv iv ov m)(h0:0≤m.steps)(h1:m.steps≤100000):
  qC 265 #[.agg #[.int .i64 to],.pointer (some ⟨b,0,none⟩)] w fun e w'=>e=.returned (.tuple #[])∧MchM w' b bv iv ov (exec (.jump to) (m.at'+1) m)∧w.grownBy w' (some b):=by
 have c:=h.alloc (.cells #[.int .i64 to] 185);go_enter Tryz.func265,Tryz.ntmps265;go_wp2_with(first|(go_at_call 228;refine(zeG _ b bv iv ov m to c h0 h1).mono ?_;rintro e w2 ⟨rfl,d,a⟩))
 go_end0
 exact⟨rfl,d,zae (World.grownBy_alloc w _ _) a⟩
theorem zxC(w:World)(b:Nat)(bv iv ov:Value)(m:Mc)(r s:Nat)(hr:r<8)(hs:s<8)(to:Int)(h:MchM w b bv iv ov m)(h0:0≤m.steps)(h1:m.steps≤100000)(ha:0≤m.at')(hb:m.at'≤100000):
  qC 267 #[.agg #[.int .i64 (r:Int),.int .i64 (s:Int),.int .i64 to],.pointer (some ⟨b,0,none⟩)] w fun e w'=>e=.returned (.tuple #[])∧MchM w' b bv iv ov (exec (.less r s to) (m.at'+1) m)∧w.grownBy w' (some b):=by
 have hl:=h.lt;have a:=h.alloc (.cells #[.int .i64 (r:Int),.int .i64 (s:Int),.int .i64 to] 187);have hcr:=a.cR r hr;have hr0:(0:Int)≤(r:Int):=by omega
 have hr8:(r:Int)<8:=by omega
 have hcs:=a.cR s hs;have hs0:(0:Int)≤(s:Int):=by omega
 have hs8:(s:Int)<8:=by omega
 have hne4:¬w.heap.size=b:=by omega
 have hne5:¬b=w.heap.size:=by omega
 show Calls _ _ _ _ fun e w'=>_∧MchM w' b bv iv ov (m.goes (if m.regs r<m.regs s then to else m.at'+1))∧_
 by_cases c:m.regs r<m.regs s
 ·rw [if_pos c];have i:m.regs r<m.regs s:=c;go_enter Tryz.func267,Tryz.ntmps267;go_wp2_with fail
  refine zao 18 (by kernel_rfl) (by kernel_rfl) ?_;simp only [q2];repeat(go_big_quiet_step (fail))
  refine wpQuiet_nil ?_;rintro _ ⟨d,rfl⟩;go_wp2_with(first|(go_at_call 269;refine(zia _ b bv iv ov m to (a.drewN d) h0 h1).mono ?_;rintro e j ⟨rfl,g,f⟩))
  go_end0
  exact⟨rfl,g,zae (World.grownBy_alloc w _ _) (zaB f)⟩
 ·rw [if_neg c];have i:decide (m.regs r<m.regs s)=false:=by simpa using c
  go_enter Tryz.func267,Tryz.ntmps267;go_wp2_with fail
  refine zao 18 (by kernel_rfl) (by kernel_rfl) ?_;simp only [q2];repeat(go_big_quiet_step (fail))
  refine wpQuiet_nil ?_;rintro _ ⟨d,rfl⟩;go_wp2_with(first|(go_at_call 269;refine(zhl _ b bv iv ov m to (a.drewN d) h0 h1 ha hb).mono ?_;rintro e j ⟨rfl,g,f⟩))
  go_end0
  exact⟨rfl,g,zae (World.grownBy_alloc w _ _) (zaB f)⟩
theorem zxD(w:World)(b:Nat)(bv iv ov:Value)(m:Mc)(r s:Nat)(hr:r<8)(hs:s<8)(to:Int)(h:MchM w b bv iv ov m)(h0:0≤m.steps)(h1:m.steps≤100000)(ha:0≤m.at')(hb:m.at'≤100000):
  qC 274 #[.agg #[.int .i64 (r:Int),.int .i64 (s:Int),.int .i64 to],.pointer (some ⟨b,0,none⟩)] w fun e w'=>e=.returned (.tuple #[])∧MchM w' b bv iv ov (exec (.same r s to) (m.at'+1) m)∧w.grownBy w' (some b):=by
 have hl:=h.lt;have a:=h.alloc (.cells #[.int .i64 (r:Int),.int .i64 (s:Int),.int .i64 to] 188);have hcr:=a.cR r hr;have hr0:(0:Int)≤(r:Int):=by omega
 have hr8:(r:Int)<8:=by omega
 have hcs:=a.cR s hs;have hs0:(0:Int)≤(s:Int):=by omega
 have hs8:(s:Int)<8:=by omega
 have hne4:¬w.heap.size=b:=by omega
 have hne5:¬b=w.heap.size:=by omega
 show Calls _ _ _ _ fun e w'=>_∧MchM w' b bv iv ov (m.goes (if m.regs r=m.regs s then to else m.at'+1))∧_
 by_cases c:m.regs r=m.regs s
 ·rw [if_pos c];have i:(m.regs r == m.regs s)=true:=by simpa using c
  go_enter Tryz.func274,Tryz.ntmps274;go_wp2_with fail
  refine zao 18 (by kernel_rfl) (by kernel_rfl) ?_;simp only [q2];repeat(go_big_quiet_step (fail))
  refine wpQuiet_nil ?_;rintro _ ⟨d,rfl⟩;go_wp2_with(first|(go_at_call 269;refine(zia _ b bv iv ov m to (a.drewN d) h0 h1).mono ?_;rintro e j ⟨rfl,g,f⟩))
  go_end0
  exact⟨rfl,g,zae (World.grownBy_alloc w _ _) (zaB f)⟩
 ·rw [if_neg c];have i:(m.regs r == m.regs s)=false:=by simpa using c
  go_enter Tryz.func274,Tryz.ntmps274;go_wp2_with fail
  refine zao 18 (by kernel_rfl) (by kernel_rfl) ?_;simp only [q2];repeat(go_big_quiet_step (fail))
  refine wpQuiet_nil ?_;rintro _ ⟨d,rfl⟩;go_wp2_with(first|(go_at_call 269;refine(zhl _ b bv iv ov m to (a.drewN d) h0 h1 ha hb).mono ?_;rintro e j ⟨rfl,g,f⟩))
  go_end0
  exact⟨rfl,g,zae (World.grownBy_alloc w _ _) (zaB f)⟩
theorem zxE(w:World)(b:Nat)(bv iv ov:Value)(m:Mc)(h:MchM w b bv iv ov m)(h0:0≤m.steps)(h1:m.steps≤100000):
  qC 288 #[.agg #[],.pointer (some ⟨b,0,none⟩)] w fun e w'=>e=.returned (.tuple #[])∧MchM w' b bv iv ov ({ m with steps:=m.steps+1,fin:=1 })∧w.grownBy w' (some b):=by
 have c:=h.alloc (.cells #[] 193);go_enter Tryz.func288,Tryz.ntmps288;go_wp2_with(first|(go_at_call 290;refine(zs8 _ b bv iv ov m c h0 h1).mono ?_;rintro e w2 ⟨rfl,d,a⟩))
 go_end0
 exact⟨rfl,d,zae (World.grownBy_alloc w _ _) a⟩
theorem znm(w:World)(b:Nat)(bv iv ov:Value)(m:Mc)(r s:Nat)(_hr:r<8)(hs:s<8)(h:MchM w b bv iv ov m)(hn:m.regs s<0∨15<m.regs s):
  qC 251 #[.agg #[.int .i64 (r:Int),.int .i64 (s:Int)],.pointer (some ⟨b,0,none⟩)] w fun e w'=>e=.returned (.tuple #[])∧MchM w' b bv iv ov (exec (.load r s) (m.at'+1) m)∧w.grownBy w' (some b):=by
 have hl:=h.lt;have a:=h.alloc (.cells #[.int .i64 (r:Int),.int .i64 (s:Int)] 176);have hcs:=a.cR s hs;have hs0:(0:Int)≤(s:Int):=by omega
 have hs8:(s:Int)<8:=by omega
 have hne4:¬w.heap.size=b:=by omega
 have hne5:¬b=w.heap.size:=by omega
 have e1:exec (.load r s) (m.at'+1) m={ m with fin:=3 }:=if_pos hn;rw [e1];go_enter Tryz.func251,Tryz.ntmps251;go_wp2_with fail
 refine zao 8 (by kernel_rfl) (by kernel_rfl) ?_;simp only [q2];repeat(go_big_quiet_step (fail))
 refine wpQuiet_nil ?_;rintro _ ⟨c,rfl⟩;go_wp2_with(first|(go_at_call 253;refine(zlk _ b bv iv ov m _ (a.drewN c) hn).mono ?_;rintro e w2 ⟨rfl,f,d⟩))
 go_end0
 exact⟨rfl,f,zae (World.grownBy_alloc w _ _) (zaB d)⟩
theorem zqk(w:World)(b:Nat)(bv iv ov:Value)(m:Mc)(r s n0:Nat)(hr:r<8)(hs:s<8)(hn16:n0<16)(hn:m.regs s=(n0:Int))(h:MchM w b bv iv ov m)(h0:0≤m.steps)(h1:m.steps≤100000)(ha:0≤m.at')(hb:m.at'≤100000):
  qC 251 #[.agg #[.int .i64 (r:Int),.int .i64 (s:Int)],.pointer (some ⟨b,0,none⟩)] w fun e w'=>e=.returned (.tuple #[])∧MchM w' b bv iv ov (exec (.load r s) (m.at'+1) m)∧w.grownBy w' (some b):=by
 have hl:=h.lt;have a:=h.alloc (.cells #[.int .i64 (r:Int),.int .i64 (s:Int)] 176);have hcr:=a.cR r hr;have hr0:(0:Int)≤(r:Int):=by omega
 have hr8:(r:Int)<8:=by omega
 have d:=a.cR s hs;have hs0:(0:Int)≤(s:Int):=by omega
 have hs8:(s:Int)<8:=by omega
 have hne4:¬w.heap.size=b:=by omega
 have hne5:¬b=w.heap.size:=by omega
 have hcn:=a.cC n0 hn16;have hfn:=a.fz (8+n0);have hfr:=a.fz r;have e1:exec (.load r s) (m.at'+1) m={ m with regs:=upd m.regs r (m.cells n0) }.goes (m.at'+1):=by
  show(if _ then _ else _)=_;rw [if_neg (by omega),hn];rfl
 rw [e1];have i:=fun n=>(a.drewN n).setR r hr (m.cells n0);have c:=fun n=>zoB ((w.alloc (.cells #[.int .i64 (r:Int),.int .i64 (s:Int)] 176)).drewN n) b n0 bv iv ov m (a.drewN n) hn16;rw [hn] at d;go_enter Tryz.func251,Tryz.ntmps251;go_wp2_with fail
 go_quiet(first|(go_at_call 253;exact Calls.quiet_of_same (c _)))
 go_wp2_with fail
 refine zao 9 (by kernel_rfl) (by kernel_rfl) ?_;simp only [q2];repeat(go_big_quiet_step (fail))
 refine wpQuiet_nil ?_;rintro _ ⟨f,rfl⟩;rw [World.drewN_drewN];go_wp2_with(first|(go_at_call 225;refine(zca _ b bv iv ov _ (i (nq+f)) h0 h1 ha hb).mono ?_;rintro e w2 ⟨rfl,j,g⟩))
 go_end0
 exact⟨rfl,j,zae zaR g⟩
theorem zll(w:World)(b:Nat)(bv iv ov:Value)(m:Mc)(r s:Nat)(hr:r<8)(_hs:s<8)(h:MchM w b bv iv ov m)(hn:m.regs r<0∨15<m.regs r):
  qC 256 #[.agg #[.int .i64 (r:Int),.int .i64 (s:Int)],.pointer (some ⟨b,0,none⟩)] w fun e w'=>e=.returned (.tuple #[])∧MchM w' b bv iv ov (exec (.store r s) (m.at'+1) m)∧w.grownBy w' (some b):=by
 have hl:=h.lt;have a:=h.alloc (.cells #[.int .i64 (r:Int),.int .i64 (s:Int)] 178);have hcr:=a.cR r hr;have hr0:(0:Int)≤(r:Int):=by omega
 have hr8:(r:Int)<8:=by omega
 have hne4:¬w.heap.size=b:=by omega
 have hne5:¬b=w.heap.size:=by omega
 have e1:exec (.store r s) (m.at'+1) m={ m with fin:=3 }:=if_pos hn;rw [e1];go_enter Tryz.func256,Tryz.ntmps256;go_wp2_with fail
 refine zao 8 (by kernel_rfl) (by kernel_rfl) ?_;simp only [q2];repeat(go_big_quiet_step (fail))
 refine wpQuiet_nil ?_;rintro _ ⟨c,rfl⟩;go_wp2_with(first|(go_at_call 253;refine(zlk _ b bv iv ov m _ (a.drewN c) hn).mono ?_;rintro e w2 ⟨rfl,f,d⟩))
 go_end0
 exact⟨rfl,f,zae (World.grownBy_alloc w _ _) (zaB d)⟩
theorem znn(w:World)(b:Nat)(bv iv ov:Value)(m:Mc)(r s n0:Nat)(hr:r<8)(hs:s<8)(hn16:n0<16)(hn:m.regs r=(n0:Int))(h:MchM w b bv iv ov m)(h0:0≤m.steps)(h1:m.steps≤100000)(ha:0≤m.at')(hb:m.at'≤100000):
  qC 256 #[.agg #[.int .i64 (r:Int),.int .i64 (s:Int)],.pointer (some ⟨b,0,none⟩)] w fun e w'=>e=.returned (.tuple #[])∧MchM w' b bv iv ov (exec (.store r s) (m.at'+1) m)∧w.grownBy w' (some b):=by
 have hl:=h.lt;have a:=h.alloc (.cells #[.int .i64 (r:Int),.int .i64 (s:Int)] 178);have d:=a.cR r hr;have hr0:(0:Int)≤(r:Int):=by omega
 have hr8:(r:Int)<8:=by omega
 have hcs:=a.cR s hs;have hs0:(0:Int)≤(s:Int):=by omega
 have hs8:(s:Int)<8:=by omega
 have hne4:¬w.heap.size=b:=by omega
 have hne5:¬b=w.heap.size:=by omega
 have hcn:=a.cC n0 hn16;have hfn:=a.fz (8+n0);have hfr:=a.fz r;have e1:exec (.store r s) (m.at'+1) m={ m with cells:=upd m.cells n0 (m.regs s) }.goes (m.at'+1):=by
  show(if _ then _ else _)=_;rw [if_neg (by omega),hn];rfl
 rw [e1];have j:=fun n=>(a.drewN n).setC n0 hn16 (m.regs s);have c:=fun n=>zoB ((w.alloc (.cells #[.int .i64 (r:Int),.int .i64 (s:Int)] 178)).drewN n) b n0 bv iv ov m (a.drewN n) hn16;rw [hn] at d;go_enter Tryz.func256,Tryz.ntmps256;go_wp2_with fail
 go_quiet(first|(go_at_call 253;exact Calls.quiet_of_same (c _)))
 go_wp2_with fail
 refine zao 9 (by kernel_rfl) (by kernel_rfl) ?_;simp only [q2];repeat(go_big_quiet_step (fail))
 refine wpQuiet_nil ?_;rintro _ ⟨f,rfl⟩;rw [World.drewN_drewN];go_wp2_with(first|(go_at_call 225;refine(zca _ b bv iv ov _ (j (nq+f)) h0 h1 ha hb).mono ?_;rintro e w2 ⟨rfl,g,i⟩))
 go_end0
 exact⟨rfl,g,zae zaR i⟩
section
attribute [local go_sem ↓] Go.wp_at_zero Go.wp_at_succ
theorem zly(w:World)(b c r:Nat)(bv ov:Value)(ao:Option Addr)(m:Mc)(hr:r<8)(h:MchM w b bv (.slice ao 0 c) ov m)(h0:0≤m.steps)(h1:m.steps≤100000)(ha:0≤m.at')(hb:m.at'≤100000):
  qC 259 #[.agg #[.int .i64 (r:Int)],.pointer (some ⟨b,0,none⟩)] w fun e w'=>e=.returned (.tuple #[])∧MchM w' b bv (.slice ao 0 c) ov ({ m with regs:=upd m.regs r 0 }.goes (m.at'+1))∧w.grownBy w' (some b):=by
 have hl:=h.lt;have d:=h.alloc (.cells #[.int .i64 (r:Int)] 180);have hcr:=d.cR r hr;have hr0:(0:Int)≤(r:Int):=by omega
 have hr8:(r:Int)<8:=by omega
 have i:=fun n=>(d.drewN n).setR r hr 0;have hfz:=d.fz r;have a:=fun n=>zqh ((w.alloc (.cells #[.int .i64 (r:Int)] 180)).drewN n) b c bv ov ao m (d.drewN n);have hne4:¬w.heap.size=b:=by omega
 have hne5:¬b=w.heap.size:=by omega
 go_enter Tryz.func259,Tryz.ntmps259;go_wp2_with fail
 refine zao 8 (by kernel_rfl) (by kernel_rfl) ?_;simp only [q2];repeat(go_big_quiet_step (first|(go_at_call 261;exact Calls.quiet_of_same (a _))))
 refine wpQuiet_nil ?_;rintro _ ⟨f,rfl⟩;go_wp2_with(first|(go_at_call 225;refine(zca _ b bv _ ov _ (i f) h0 h1 ha hb).mono ?_;rintro e w2 ⟨rfl,j,g⟩))
 go_end0
 exact⟨rfl,j,zae zaR g⟩
theorem zvM(w:World)(b r:Nat)(bv iv ov:Value)(m:Mc)(hr:r<8)(h:MchM w b bv iv ov m)(hown:w.ownsRow (b+1) 2 1 ov m.out.length (i64s m.out))(hlen:m.out.length≤100000)(h0:0≤m.steps)(h1:m.steps≤100000)(ha:0≤m.at')(hb:m.at'≤100000):
  qC 262 #[.agg #[.int .i64 (r:Int)],.pointer (some ⟨b,0,none⟩)] w fun e w'=>e=.returned (.tuple #[]) ∧
   ∃ v' w4,MchM w' b bv iv v' (exec (.write r) (m.at'+1) m)∧w4.ownsRow (b+1) 2 1 v' (m.out.length+1) (i64s (m.out++[m.regs r]))∧w.grownBy w4 ov.ownBlock∧w4.grownBy w' (some b):=by
 have hl:=h.lt;have i:=h.alloc (.cells #[.int .i64 (r:Int)] 182);have hcr:=i.cR r hr;have hr0:(0:Int)≤(r:Int):=by omega
 have hr8:(r:Int)<8:=by omega
 have hne4:¬w.heap.size=b:=by omega
 have hne5:¬b=w.heap.size:=by omega
 have c:=fun n=>zqs ((w.alloc (.cells #[.int .i64 (r:Int)] 182)).drewN n) b (b+1) bv iv ov m (m.regs r) (i.drewN n) (hown.alloc _) (zbb hown) (by show b+1≤(w.alloc _).heap.size;simp;omega) hlen;go_enter Tryz.func262,Tryz.ntmps262;go_wp2_with fail
 refine zao 8 (by kernel_rfl) (by kernel_rfl) ?_;simp only [q2];repeat(go_big_quiet_step (fail))
 refine wpQuiet_nil ?_;rintro _ ⟨j,rfl⟩;go_wp2_with(first|(go_at_call 264;refine(c j).mono ?_;rintro e w3 ⟨rfl,v',w4,d,a,g,f⟩)|(go_at_call 225;refine(zca _ b bv iv v' _ d h0 h1 ha hb).mono ?_;rintro e w2 ⟨rfl,l,k⟩))
 go_end0
 exact⟨rfl,v',w4,l,a,(World.grownBy_alloc w _ _).trans (zaB g),zae f k⟩
theorem zlz(w:World)(b c r g o n:Nat)(bv ov:Value)(m:Mc)(x:Int)(l:List Int)(hr:r<8)(h:MchM w b bv (.slice (some ⟨g,o,none⟩) (n+1) c) ov m)(hx:w.cell? ⟨g,o,none⟩=some (.int .i64 x))(hn:n≤9223372036854775806)(hc:n+1≤c)(h0:0≤m.steps)(h1:m.steps≤100000)(ha:0≤m.at')(hb:m.at'≤100000):
  qC 259 #[.agg #[.int .i64 (r:Int)],.pointer (some ⟨b,0,none⟩)] w fun e w'=>e=.returned (.tuple #[])∧(∃ o',MchM w' b bv (.slice (some ⟨g,o',none⟩) n (c-1)) ov ({ m with regs:=upd m.regs r x,inp:=l }.goes (m.at'+1))∧(n=0∨o'=o+1))∧w.grownBy w' (some b):=by
 have hl:=h.lt;have j:g<w.heap.size:=World.block_lt_of_cell? w _ hx;have i:=h.alloc (.cells #[.int .i64 (r:Int)] 180);have hr0:(0:Int)≤(r:Int):=by omega
 have hr8:(r:Int)<8:=by omega
 have k:(w.alloc (.cells #[.int .i64 (r:Int)] 180)).cell? ⟨g,o,none⟩=some (.int .i64 x):=(World.cell?_alloc_lt w _ _ j).trans hx;have f:=zqi ((w.alloc (.cells #[.int .i64 (r:Int)] 180)).drew) b c g o n bv ov m x l i.drew k hn hc;have hne4:¬w.heap.size=b:=by omega
 have hne5:¬b=w.heap.size:=by omega
 have hcr:=i.cR r hr;have hfr:=i.fz r;go_enter Tryz.func259,Tryz.ntmps259;go_wp2_with fail
 go_region_with(go_at_call 261;refine f.mono ?_;rintro e q ⟨rfl,⟨o',d,p⟩,a⟩;have hc3:=d.cR r hr;have hf3:=d.fz r;have hq3:q.cell? ⟨w.heap.size,0,none⟩=some (.int .i64 (r:Int)):=(a.cell_far ⟨w.heap.size,0,none⟩ (by show w.heap.size<(w.alloc _).heap.size;simp) (by simp;omega)).trans (by show(w.alloc _).cell? _=_;simp))
 all_goals go_wp2_with(first|(go_at_call 225;refine(zca _ b bv _ ov _ (d.setR r hr x) h0 h1 ha hb).mono ?_;rintro e w2 ⟨rfl,t,s⟩))
 all_goals go_end0
 all_goals exact⟨rfl,⟨o',t,p⟩,zae (World.grownBy_alloc w _ _) (zae ⟨a.os,a.tape,a.output,a.size,a.block⟩ (zae (zac (Below.refl _ _)) s))⟩
end
section
attribute [local go_sem ↓] Go.wp_at_zero Go.wp_at_succ
theorem zvN(w:World)(b c:Nat)(ao:Option Addr)(iv ov:Value)(m:Mc)(to:Int)(p:Nat)(h:MchM w b (.slice ao m.backs.length c) iv ov m)(h2:(m.fin == 2)=false)(hown:w.ownsRow (b+1) 3 1 (.slice ao m.backs.length c) m.backs.length (i64s m.backs))(hlen:m.backs.length<15)(hp:m.peak=(p:Int))(_hp1:p≤16)
  (h0:0≤m.steps) (h1:m.steps≤100000) (ha:0≤m.at') (hb:m.at'≤100000) :
  qC 281 #[.pointer (some ⟨b,0,none⟩),.int .i64 to] w fun e w'=>e=.returned (.tuple #[]) ∧
   ∃ g c' w4,MchM w' b (.slice (some ⟨g,0,none⟩) (m.backs.length+1) c') iv ov ({ m with backs:=m.backs++[m.at'+1],peak:=max m.peak ((m.backs.length:Int)+2) }.goes to)∧w4.ownsRow (b+1) 3 1 (.slice (some ⟨g,0,none⟩) (m.backs.length+1) c') (m.backs.length+1) (i64s (m.backs++[m.at'+1]))∧w.grownBy w4 ((Value.slice ao m.backs.length c).ownBlock)∧w4.grownBy w' (some b):=by
 have hpk:max m.peak ((m.backs.length:Int)+2)=max (p:Int) ((m.backs.length:Int)+1+1):=by rw [hp,Int.add_assoc];rfl
 rw [hpk];have k:=zbb hown;have G:=zfd w b _ c ao iv ov m h (by omega) h2;have z:=h.cB;have C:=h.cN;have i:=h.fz 27;have E:=h.lt;obtain⟨K,s,A,y,r⟩:=info_parts Tryz.info3;generalize hbv:Value.slice ao m.backs.length c=bv at h hown k z G;have d:some b≠bv.ownBlock:=fun e=>k e.symm;have hne4:¬w.heap.size=b:=by omega
 have hne5:¬b=w.heap.size:=by omega
 have D:(((m.backs.length:Int)+1) == 16)=false:=by simp;omega
 have hw1:IntKind.i64.wrap (m.at'+1)=m.at'+1:=zcH _ (by omega) (by omega);go_enter Tryz.func281,Tryz.ntmps281;go_wp2_with(first|(go_at_call 110;refine G.mono ?_;rintro e wx ⟨rfl,u⟩;have F:=u.symm;subst F))
 go_region_law
  ((refine step_append_lies _ (by rfl) _ _ _ (by rfl) (b+1) 3 K _ 1 8 Tryz.under59 s A y r rfl (by omega) bv m.backs.length (i64s m.backs) (by rfl) ((hown.alloc _).drew)
     ⟨w.heap.size,0,none⟩ 1 1 [.int .i64 (m.at'+1)] (by rfl) (by rfl) (World.news_of_block (cs:=#[.int .i64 (m.at'+1)]) (t:=3) (fr:=(0,0)) (zky w _ _)) (by simp [Value.oneCell'])
     (by omega) (by unfold maxLen;omega) (by omega) (by simp;omega) (w.heap.size+1) (by simp) ?_;intro g c' f j a hat hltg;have v:f.frozen? ⟨b,27,none⟩=false:=(a.frozen_far _ (by simp;omega) d).trans ((zg9 w _ _ E).trans i);have B:f.cell? ⟨b,27,none⟩=some bv:=(a.cell_far _ (by simp;omega) d).trans ((zgd w _ _ E).trans z)))
 all_goals have J:MchM f b bv iv ov m:=h.of_block ((a.block b (by simp;omega) d).trans (Below.heap_alloc _ _ _ E))
 all_goals have o:=J.setB (.slice (some ⟨g,0,none⟩) (m.backs.length+1) c') (m.backs++[m.at'+1])
 all_goals have x:w.grownBy f bv.ownBlock:=zge a
 all_goals have l:f.grownBy (f.setCell ⟨b,27,none⟩ (.slice (some ⟨g,0,none⟩) (m.backs.length+1) c')) (some b):=zac (Below.refl _ _)
 all_goals clear v B z i C G D
 all_goals generalize f.setCell ⟨b,27,none⟩ (.slice (some ⟨g,0,none⟩) (m.backs.length+1) c')=w5 at o l ⊢
 all_goals have q:=fun n=>zfd (w5.drewN n) b (m.backs.length+1) c' _ iv ov _ (o.drewN n) (by omega) h2
 all_goals simp only [Int.natCast_add,Int.cast_ofNat_Int] at q
 all_goals have hcp:=o.cP
 all_goals have hfp:=o.fz 29
 all_goals go_wp2_with fail
 all_goals refine zao 10 (by kernel_rfl) (by kernel_rfl) ?_
 all_goals simp only [q2]
 all_goals repeat(go_big_quiet_step (first|(go_at_call 110;exact Calls.quiet_of_same (q _))))
 all_goals refine wpQuiet_nil ?_
 all_goals rintro _ ⟨H,rfl⟩
 all_goals go_wp2_with(first|(go_at_call 228;refine(zeG _ b _ iv ov _ to ((o.drewN H).setP (max (p:Int) ((m.backs.length:Int)+1+1))) h0 h1).mono ?_;rintro e w2 ⟨rfl,I,L⟩))
 all_goals go_end0
 all_goals exact⟨rfl,g,c',f,I,by simpa [i64s] using j,x,zae l (zae (zaB (n:=H) (zac (Below.refl _ _))) L)⟩
theorem zl0(w:World)(b c:Nat)(ao:Option Addr)(iv ov:Value)(m:Mc)(to:Int)(h:MchM w b (.slice ao 15 c) iv ov m)(h2:(m.fin == 2)=false):
  qC 279 #[.agg #[.int .i64 to],.pointer (some ⟨b,0,none⟩)] w fun e w'=>e=.returned (.tuple #[])∧MchM w' b (.slice ao 15 c) iv ov { m with fin:=4 }∧w.grownBy w' (some b):=by
 have a:=h.alloc (.cells #[.int .i64 to] 190);go_enter Tryz.func279,Tryz.ntmps279;go_wp2_with(first|(go_at_call 281;refine(zqt _ b c ao iv ov m to a h2).mono ?_;rintro e w2 ⟨rfl,f,d⟩))
 go_end0
 exact⟨rfl,f,zae (World.grownBy_alloc w _ _) d⟩
theorem zqx(w:World)(b c:Nat)(ao:Option Addr)(iv ov:Value)(m:Mc)(to:Int)(p:Nat)(h:MchM w b (.slice ao m.backs.length c) iv ov m)(h2:(m.fin == 2)=false)(hown:w.ownsRow (b+1) 3 1 (.slice ao m.backs.length c) m.backs.length (i64s m.backs))(hlen:m.backs.length<15)(hp:m.peak=(p:Int))(hp1:p≤16)
  (h0:0≤m.steps) (h1:m.steps≤100000) (ha:0≤m.at') (hb:m.at'≤100000) :
  qC 279 #[.agg #[.int .i64 to],.pointer (some ⟨b,0,none⟩)] w fun e w'=>e=.returned (.tuple #[]) ∧
   ∃ g c' w4,MchM w' b (.slice (some ⟨g,0,none⟩) (m.backs.length+1) c') iv ov ({ m with backs:=m.backs++[m.at'+1],peak:=max m.peak ((m.backs.length:Int)+2) }.goes to)∧w4.ownsRow (b+1) 3 1 (.slice (some ⟨g,0,none⟩) (m.backs.length+1) c') (m.backs.length+1) (i64s (m.backs++[m.at'+1]))∧w.grownBy w4 ((Value.slice ao m.backs.length c).ownBlock)∧w4.grownBy w' (some b):=by
 have j:=h.alloc (.cells #[.int .i64 to] 190);go_enter Tryz.func279,Tryz.ntmps279;go_wp2_with(first|(go_at_call 281;refine(zvN _ b c ao iv ov m to p j h2 (hown.alloc _) hlen hp hp1 h0 h1 ha hb).mono ?_;rintro e w2 ⟨rfl,g,c',w4,i,a,d,f⟩))
 go_end0
 exact⟨rfl,g,c',w4,i,a,(World.grownBy_alloc w _ _).trans d,f⟩
theorem znu(w:World)(b c:Nat)(ao:Option Addr)(iv ov:Value)(m:Mc)(h:MchM w b (.slice ao 0 c) iv ov m)(h0:0≤m.steps)(h1:m.steps≤100000):
  qC 284 #[.agg #[],.pointer (some ⟨b,0,none⟩)] w fun e w'=>e=.returned (.tuple #[])∧MchM w' b (.slice ao 0 c) iv ov { m with steps:=m.steps+1,fin:=2 }∧w.grownBy w' (some b):=by
 have a:=h.alloc (.cells #[] 192);go_enter Tryz.func284,Tryz.ntmps284;go_wp2_with(first|(go_at_call 222;refine(zsW _ b c ao iv ov m a h0 h1).mono ?_;rintro e w2 ⟨rfl,f,d⟩))
 go_end0
 exact⟨rfl,f,zae (World.grownBy_alloc w _ _) d⟩
theorem zqy(w:World)(b c g n:Nat)(iv ov:Value)(m:Mc)(to:Int)(l:List Int)(h:MchM w b (.slice (some ⟨g,0,none⟩) (n+1) c) iv ov m)(hcg:w.cell? ⟨g,n,none⟩=some (.int .i64 to))(hgb:¬g=b)(hn:n≤16)(hc:n+1≤c)(h0:0≤m.steps)(h1:m.steps≤100000):
  qC 284 #[.agg #[],.pointer (some ⟨b,0,none⟩)] w fun e w'=>e=.returned (.tuple #[])∧MchM w' b (.slice (some ⟨g,0,none⟩) n c) iv ov ({ m with backs:=l }.goes to)∧w.grownBy w' (some b):=by
 have f:=h.alloc (.cells #[] 192);have a:(w.alloc (.cells #[] 192)).cell? ⟨g,n,none⟩=some (.int .i64 to):=(World.cell?_alloc_lt w _ _ (World.block_lt_of_cell? w _ hcg)).trans hcg;go_enter Tryz.func284,Tryz.ntmps284;go_wp2_with(first|(go_at_call 222;refine(zvL _ b c g n iv ov m to l f a hgb hn hc h0 h1).mono ?_;rintro e w2 ⟨rfl,d,i⟩))
 go_end0
 exact⟨rfl,d,zae (World.grownBy_alloc w _ _) i⟩
end
end Go.Proofs.YtfpgjkbjbbgciaaGreatDoor
