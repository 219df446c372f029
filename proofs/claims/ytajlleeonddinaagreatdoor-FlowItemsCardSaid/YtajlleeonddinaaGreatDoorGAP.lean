/-
  RkZ, EsB.
-/
import Derived.Test.YtajlleeonddinaaGreatDoorMRkB
import Derived.Test.YtajlleeonddinaaGreatDoorMRkC
import Derived.Test.YtajlleeonddinaaGreatDoorMRkD
import Derived.Test.YtajlleeonddinaaGreatDoorMRkE
import Derived.Test.YtajlleeonddinaaGreatDoorMEsA
set_option linter.all false
set_option maxRecDepth 100000
set_option maxHeartbeats 4000000
namespace Go.Proofs.YtajlleeonddinaaGreatDoor
open Go.RowKit Go.Shelf
theorem rk_0 (n:Nat) (hn:n<256):okAt Tryz.prog 0 n=true:=by
 rcases (by omega:0≤n∧n<64∨64≤n∧n<128∨128≤n∧n<192∨192≤n∧n<256) with ⟨h1,h2⟩ | ⟨h1,h2⟩ | ⟨h1,h2⟩ | ⟨h1,h2⟩
 ·exact okAll_at ok_0_0 n h1 h2
 ·exact okAll_at ok_0_64 n h1 h2
 ·exact okAll_at ok_0_128 n h1 h2
 ·exact okAll_at ok_0_192 n h1 h2
theorem rk_1 (n:Nat) (hn:n<256):okAt Tryz.prog 1 n=true:=by
 rcases (by omega:0≤n∧n<64∨64≤n∧n<128∨128≤n∧n<192∨192≤n∧n<256) with ⟨h1,h2⟩ | ⟨h1,h2⟩ | ⟨h1,h2⟩ | ⟨h1,h2⟩
 ·exact okAll_at ok_1_0 n h1 h2
 ·exact okAll_at ok_1_64 n h1 h2
 ·exact okAll_at ok_1_128 n h1 h2
 ·exact okAll_at ok_1_192 n h1 h2
theorem rk_2 (n:Nat) (hn:n<256):okAt Tryz.prog 2 n=true:=by
 rcases (by omega:0≤n∧n<16∨16≤n∧n<32∨32≤n∧n<48∨48≤n∧n<64∨64≤n∧n<80∨80≤n∧n<96∨96≤n∧n<112∨112≤n∧n<128∨128≤n∧n<144∨144≤n∧n<160∨160≤n∧n<176∨176≤n∧n<192∨192≤n∧n<208∨208≤n∧n<224∨224≤n∧n<240∨240≤n∧n<256) with ⟨h1,h2⟩ | ⟨h1,h2⟩ | ⟨h1,h2⟩ | ⟨h1,h2⟩ | ⟨h1,h2⟩ | ⟨h1,h2⟩ | ⟨h1,h2⟩ | ⟨h1,h2⟩ | ⟨h1,h2⟩ | ⟨h1,h2⟩ | ⟨h1,h2⟩ | ⟨h1,h2⟩ | ⟨h1,h2⟩ | ⟨h1,h2⟩ | ⟨h1,h2⟩ | ⟨h1,h2⟩
 ·exact okAll_at ok_2_0 n h1 h2
 ·exact okAll_at ok_2_16 n h1 h2
 ·exact okAll_at ok_2_32 n h1 h2
 ·exact okAll_at ok_2_48 n h1 h2
 ·exact okAll_at ok_2_64 n h1 h2
 ·exact okAll_at ok_2_80 n h1 h2
 ·exact okAll_at ok_2_96 n h1 h2
 ·exact okAll_at ok_2_112 n h1 h2
 ·exact okAll_at ok_2_128 n h1 h2
 ·exact okAll_at ok_2_144 n h1 h2
 ·exact okAll_at ok_2_160 n h1 h2
 ·exact okAll_at ok_2_176 n h1 h2
 ·exact okAll_at ok_2_192 n h1 h2
 ·exact okAll_at ok_2_208 n h1 h2
 ·exact okAll_at ok_2_224 n h1 h2
 ·exact okAll_at ok_2_240 n h1 h2
theorem rk_3 (n:Nat) (hn:n<256):okAt Tryz.prog 3 n=true:=by
 rcases (by omega:0≤n∧n<32∨32≤n∧n<64∨64≤n∧n<96∨96≤n∧n<128∨128≤n∧n<160∨160≤n∧n<192∨192≤n∧n<224∨224≤n∧n<256) with ⟨h1,h2⟩ | ⟨h1,h2⟩ | ⟨h1,h2⟩ | ⟨h1,h2⟩ | ⟨h1,h2⟩ | ⟨h1,h2⟩ | ⟨h1,h2⟩ | ⟨h1,h2⟩
 ·exact okAll_at ok_3_0 n h1 h2
 ·exact okAll_at ok_3_32 n h1 h2
 ·exact okAll_at ok_3_64 n h1 h2
 ·exact okAll_at ok_3_96 n h1 h2
 ·exact okAll_at ok_3_128 n h1 h2
 ·exact okAll_at ok_3_160 n h1 h2
 ·exact okAll_at ok_3_192 n h1 h2
 ·exact okAll_at ok_3_224 n h1 h2
theorem rk_4 (n:Nat) (hn:n<256):okAt Tryz.prog 4 n=true:=by
 rcases (by omega:0≤n∧n<32∨32≤n∧n<64∨64≤n∧n<96∨96≤n∧n<128∨128≤n∧n<160∨160≤n∧n<192∨192≤n∧n<224∨224≤n∧n<256) with ⟨h1,h2⟩ | ⟨h1,h2⟩ | ⟨h1,h2⟩ | ⟨h1,h2⟩ | ⟨h1,h2⟩ | ⟨h1,h2⟩ | ⟨h1,h2⟩ | ⟨h1,h2⟩
 ·exact okAll_at ok_4_0 n h1 h2
 ·exact okAll_at ok_4_32 n h1 h2
 ·exact okAll_at ok_4_64 n h1 h2
 ·exact okAll_at ok_4_96 n h1 h2
 ·exact okAll_at ok_4_128 n h1 h2
 ·exact okAll_at ok_4_160 n h1 h2
 ·exact okAll_at ok_4_192 n h1 h2
 ·exact okAll_at ok_4_224 n h1 h2
theorem rk_5 (n:Nat) (hn:n<256):okAt Tryz.prog 5 n=true:=by
 rcases (by omega:0≤n∧n<64∨64≤n∧n<128∨128≤n∧n<192∨192≤n∧n<256) with ⟨h1,h2⟩ | ⟨h1,h2⟩ | ⟨h1,h2⟩ | ⟨h1,h2⟩
 ·exact okAll_at ok_5_0 n h1 h2
 ·exact okAll_at ok_5_64 n h1 h2
 ·exact okAll_at ok_5_128 n h1 h2
 ·exact okAll_at ok_5_192 n h1 h2
theorem rk_6 (n:Nat) (hn:n<256):okAt Tryz.prog 6 n=true:=by
 rcases (by omega:0≤n∧n<64∨64≤n∧n<128∨128≤n∧n<192∨192≤n∧n<256) with ⟨h1,h2⟩ | ⟨h1,h2⟩ | ⟨h1,h2⟩ | ⟨h1,h2⟩
 ·exact okAll_at ok_6_0 n h1 h2
 ·exact okAll_at ok_6_64 n h1 h2
 ·exact okAll_at ok_6_128 n h1 h2
 ·exact okAll_at ok_6_192 n h1 h2
theorem rat_start (w:World) (page op:Int):∃ w0,(w.alloc (.cells #[.int .i64 0,.int .u8 0,.string ⟨#[]⟩,.slice none 0 0,.string ⟨#[]⟩,.bool false] 64)).alloc (.cells #[.int .i64 page,.int .u8 op,.string ⟨#[]⟩,.slice none 0 0,.string ⟨#[]⟩,.bool false] 64)=w0∧
  RnAt w0 w.heap.size 0 0 [] (.slice none 0 0) [] false∧RnAt w0 (w.heap.size+1) page op [] (.slice none 0 0) [] false∧Below w.heap.size w w0∧w0.heap.size=w.heap.size+2:=by
 refine ⟨_,rfl,(Below.heap_alloc _ _ _ (by simp)).trans (World.alloc_heap_new w _),?_,((Below.refl _ w).alloc (Nat.le_refl _) _).alloc (by simp) _,by simp⟩
 have h:=World.alloc_heap_new (w.alloc (.cells #[.int .i64 0,.int .u8 0,.string ⟨#[]⟩,.slice none 0 0,.string ⟨#[]⟩,.bool false] 64)) (.cells #[.int .i64 page,.int .u8 op,.string ⟨#[]⟩,.slice none 0 0,.string ⟨#[]⟩,.bool false] 64)
 rw [World.size_alloc] at h
 exact h
theorem rat_x (op:Nat) (hop:op<256) (page:Int) (hp:¬(0≤page∧page≤6)) (w:World):Calls Tryz.prog 59 #[.int .i64 page,.int .u8 op] w (RetRAt w page op (rkindT page op) (ratT page op)):=by
 obtain ⟨w0,hw0,R0,E0,B0,Z0⟩:=rat_start w page op
 obtain ⟨n,hn⟩:∃ n,w.heap.size=n:=⟨_,rfl⟩
 rw [hn] at R0 E0 B0 Z0
 have HN:=Lib.hid hn
 have HW:=Lib.hid hw0
 have Rw0:=Lib.hid R0
 have Ew0:=Lib.hid E0
 have Bw0:=Lib.hid B0
 have ZZ:=Lib.hid Z0
 clear hw0 hn R0 E0 B0 Z0
 have KD:Hid (rkindT page op=0):=(by unfold rkindT;rw [if_neg (by omega),if_neg (by omega),if_neg (by omega)]:rkindT page op=0)
 have T:Hid (ratT page op=none):=ratT_no hp op
 have p0:(page == 0)=false:=by simp;omega
 have p1:(page == 1)=false:=by simp;omega
 have p2:(page == 2)=false:=by simp;omega
 have p3:(page == 3)=false:=by simp;omega
 have p4:(page == 4)=false:=by simp;omega
 have p5:(page == 5)=false:=by simp;omega
 have p6:(page == 6)=false:=by simp;omega
 clear hp
 go_enter Tryz.func59,Tryz.ntmps59
 go_upto_region 3 with fail
 rw [HW.out,HN.out]
 clear HW
 obtain ⟨r0,r1,r2,r3,r4,r5,r6⟩:=Rw0.out.cells
 go_wp2
 obtain ⟨w7,hw7,qq,q2,q3,-,q4⟩:=Rw0.out.put 0 0 [] (.slice none 0 0) [] false
 rw [show sB []=(⟨#[]⟩:ByteArray) from rfl] at hw7
 rw [hw7]
 obtain ⟨q0,q1,q2',q3',q4',q5,-⟩:=qq.cells
 refine bodyPost_ret (v:=.tuple #[enV 0 0 [] (.slice none 0 0) [] false,.int .i64 0]) ?_ rfl ?_
 ·simp [results,Tryz.results59,go_sem,q0,q1,q2',q3',q4',q5,enV]
 ·rw [T.out]
  exact ⟨by first | rfl | (rw [KD.out]),by rw [HN.out];exact Bw0.out.trans q2⟩
theorem rat_any (page:Int) (op:Nat) (hop:op<256) (w:World):Calls Tryz.prog 59 #[.int .i64 page,.int .u8 op] w (RetRAt w page op (rkindT page op) (ratT page op)):=by
 by_cases hp:0≤page∧page≤6
 ·rcases (by omega:page=0∨page=1∨page=2∨page=3∨page=4∨page=5∨page=6) with rfl | rfl | rfl | rfl | rfl | rfl | rfl
  ·exact okAt_calls (g:=0) (by omega) (rk_0 op hop) w
  ·exact okAt_calls (g:=1) (by omega) (rk_1 op hop) w
  ·exact okAt_calls (g:=2) (by omega) (rk_2 op hop) w
  ·exact okAt_calls (g:=3) (by omega) (rk_3 op hop) w
  ·exact okAt_calls (g:=4) (by omega) (rk_4 op hop) w
  ·exact okAt_calls (g:=5) (by omega) (rk_5 op hop) w
  ·exact okAt_calls (g:=6) (by omega) (rk_6 op hop) w
 ·exact rat_x op hop page hp w
end Go.Proofs.YtajlleeonddinaaGreatDoor
namespace Go.Proofs.YtajlleeonddinaaGreatDoor
open Go.RowKit Go.Shelf
def entsR (page:Int):Nat→List Ke
 | 0=>[]
 | k+1=>match ratT page k with
  | some x=>entsR page k++[(page,(k:Int),x.1,x.2.1,x.2.2.1,x.2.2.2)]
  | none=>entsR page k
end Go.Proofs.YtajlleeonddinaaGreatDoor
