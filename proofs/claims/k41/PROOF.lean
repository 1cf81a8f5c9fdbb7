import PyProof.Rows.All
import Wide.All
import OpenK.AllK
import Wide.FinOn
import HandS.ForMost
import HandS.IsInst
import HandS.AnyAll
import HandS.EndTab
import HandS.Walk
import HandS.TryOnly
import HandS.TupLe
import HandS.TupAny
import HandS.GenList
import HandS.Comp
import PyProof.TupleOfGen
import HandS.Set
import HandS.Strs
import HandS.SetFor
import HandS.JoinGen
import PyProof.SumAny
import HandS.More
import HandS.Zip
import KE.KSortTupG
import HandS.Conv
import HandS.Sort
import PyProof.WalksMore
import PyProof.TupleIter
import HandS.DictComp
import KE.GoesMore
import PyProof.Draws
import HandS.TupMul
import HandS.Style
import HandS.ExcOwn
import HandS.WordsExc
import HandS.Star
import HandS.ExcIs
import PySem.Challenge.RW_wipeways_k41_too_long_in_place
set_option Elab.async false
set_option linter.all false
set_option maxRecDepth 100000
set_option maxHeartbeats 2000000
namespace Kk
open PySem PySem.Spec PyProof.Rows L2

/-- the element of a generator over signs, where the module's names are to be read -/
def EltB (X : Cx) (sc : Scope) (x : Str) (e : Expr) (pb : Nat → Bool) : Prop :=
  ∀ (ge : Env) (B : Around) (F : Value → Shared → Prop) (c : Nat) (t : Tok) (z : Shared) (m : Str → Option Value),
    ge.scope = sc → ge.globals = mainGlobals → (∀ b o, X.base.get? b = some o → z.heap.get? b = some o) →
    z.heap.Ns ge.locals m → m x = some (.str ⟨#[c]⟩ t) →
    wpAny (model X.prog X.w) B (eval e ge) (fun y z' => y = .bool (pb c) ∧ Keeps z z') F z

section
variable {X : Cx} {pins : List (Addr × Obj)} {σ : L2.St} {H : Hp} {s : Shared}

theorem genB {c P : Addr} {e it : Expr} {x : Str} {px gp : Pos} {sc : Scope} {pb : Nat → Bool} {te : TE} {k : Nat} {G : Value → Shared → Prop} {R : Str → Hp → Prop}
    (room : Room k X.A) (tab : GxR.TabB X.base X.mg c P) (code : X.env.code = .ref c) (gs : GxR.GenS X.env sc x) (pit : PE X it te) (pel : EltB X sc x e pb)
    (fold : ∀ v, genFold it X.env v = pure v) (I : Inv X pins σ H s) (want : te σ H fun v H1 => ∃ a : Str, v = .str a ∧ GxR.TabG H1 P ∧ R a H1)
    (fin : ∀ a H1 g s5, R a H1 → GxR.Ready X pins σ H1 P a pb g s5 → G (.ref g) s5) :
    wpAny (model X.prog X.w) X.A (eval (.GeneratorExp e [⟨.Name x px, it, [], 0⟩] sc gp) X.env) G X.xe s := by
  have deep : X.A.depth < recursionLimit := by have q := room.dp; omega
  refine wpAny_GeneratorExp_walksQ room.hd gs.co (closure_ok gs.free) gs.cell gs.dot gs.loc gs.kind deep ?_ fold
  refine thn (pit.run pins s σ H _ I want) fun xv z ⟨v, H1, J, rv, got⟩ => ?_
  obtain ⟨a, rfl, ⟨rows, isT, trip⟩, rest⟩ := got
  obtain ⟨t, rfl⟩ := _root_.id rv
  refine wpAny_pyIter_str fun io St W st0 => ?_
  have atP : z.heap.get? P = some { cls := .none, data := .fields rows } := J.hok P _ isT
  have ltP : P < z.heap.objs.size := Heap.lt_size atP
  have atP2 : (z.heap.push io).get? P = some { cls := .none, data := .fields rows } := Heap.get?_push_of_some _ atP
  have chd : PySem.W.CodeHd (z.heap.push io) c P := tab.code.keeps fun b u q => Heap.get?_push_of_some _ (J.bk b u q)
  have nl : (z.heap.push io).NoLimit := J.nolimit.push io
  have go : ∀ (cv : Value) (h3 : Heap) (tk : Nat) (rows' : Array Value), Heap.ExtBut P (z.heap.push io) h3 → (z.heap.push io).objs.size ≤ h3.objs.size →
      h3.get? P = some { cls := .none, data := .fields rows' } → (∃ more, rows' = rows ++ more) → TriplesOk rows'.toList →
      wpAny (model X.prog X.w) X.A (builtinsFor X.env.globals X.env.builtins) (fun bi s4 =>
        ∃ Ia fp wr n0 Pf S0 pz F, Value.ref z.heap.objs.size = .ref Ia ∧ (∀ B : Around, B.handled = none → Walks X.prog X.w B Ia fp wr n0 Pf S0) ∧
          S0 0 s4.heap ∧ (∀ b ∈ fp, b < s4.heap.objs.size) ∧ s4.heap.NoLimit ∧ cStatics ∉ wr ∧
          (∀ hr : Heap, (∀ b o, s4.heap.get? b = some o → hr.get? b = some o) →
            QuietGen X.prog X.w (genEnv sc (cloFrom X.env.cells sc.names []) s4.heap.objs.size cv bi X.env) x [] e (List.range s4.heap.objs.size) wr Pf pz F hr) ∧
          (∀ g h5 tk gst, gst.bare = true → s4.heap.objs.size < g → h5.objs.size = g + 1 → (∀ b o, s4.heap.get? b = some o → h5.get? b = some o) →
            WalksS X.prog X.w X.A.in4 g (g :: s4.heap.objs.size :: List.range s4.heap.objs.size) (s4.heap.objs.size :: wr) (GenOnlyQ s4.gens.size) (passing pz n0 0).length
              (fun j y => ∃ i, (passing pz n0 0)[j]? = some i ∧ F i y) (GenAt X.prog X.w X.A.in4 g s4.gens.size s4.heap.objs.size (List.range s4.heap.objs.size) wr pz n0 F) →
            GenAt X.prog X.w X.A.in4 g s4.gens.size s4.heap.objs.size (List.range s4.heap.objs.size) wr pz n0 F 0 { s4 with gens := s4.gens.push gst, toks := tk, heap := h5 } →
            G (.ref g) { s4 with gens := s4.gens.push gst, toks := tk, heap := h5 })) X.xe { z with heap := h3, toks := tk } := by
    intro cv h3 tk rows' ext le3 at3 grown trip3
    obtain ⟨bm, ob, b1, b2, b3, b4, b5, b6, b7, b8⟩ := tab.bm
    have cP : cStatics ≠ P := fun q => by
      obtain ⟨_, ns, _⟩ := J.nolimit
      obtain ⟨o9, es, ep, g9, d9, _⟩ := ns
      rw [q, atP] at g9; cases g9; cases d9
    have cLt : cStatics < z.heap.objs.size := let ⟨_, ns, _⟩ := J.nolimit; ns.lt
    have szI : (z.heap.push io).objs.size = z.heap.objs.size + 1 := Heap.size_push ..
    have kp3 : ∀ b u, b ≠ P → z.heap.get? b = some u → h3.get? b = some u := fun b u nb q => ext b u nb (Heap.get?_push_of_some _ q)
    have kpB : ∀ b u, X.base.get? b = some u → h3.get? b = some u ∧ b < z.heap.objs.size := fun b u q => by
      obtain ⟨q1, q2⟩ := J.bs b u q
      exact ⟨kp3 b u (fun zz => by rw [zz, isT] at q2; cases q2) q1, Heap.lt_size q1⟩
    refine wpAny_builtinsFor (m := X.mg) (by rw [J.ok.glob]; exact ((J.mod.glob.keeps J.bk).push io).extBut ext tab.gP) b1 b2 (kp3 _ _ b4 (J.bk _ _ b5)) b6 b7 b8 ?_
    refine ⟨z.heap.objs.size, [z.heap.objs.size], [z.heap.objs.size], a.cps.size, SignAt a, St, (fun _ => true), (fun i y => ∃ cc, a.cps[i]? = some cc ∧ y = .bool (pb cc)), rfl, W,
      ?_, ?_, nl.extBut ext cP, ?_, ?_, ?_⟩
    · refine (W X.A room.hd).frame _ _ _ st0 fun b hb u q => ext b u (fun zz => ?_) q
      rcases List.mem_cons.mp hb with z2 | z2
      · exact Nat.ne_of_lt ltP (zz.symm.trans z2)
      · cases z2
    · intro b hb
      rcases List.mem_cons.mp hb with q | q
      · rw [q]; show z.heap.objs.size < h3.objs.size; omega
      · cases q
    · intro q
      rcases List.mem_cons.mp q with q | q
      · exact Nat.ne_of_lt cLt q
      · cases q
    · intro hr hhr
      refine ⟨fun B E' i v s2 m2 hB hPv hn hm hk => ?_, fun B E' i v s2 m2 hB hPv hp hn hm hk => ?_⟩
      · simp only [List.forIn_nil]
        exact wpAny_pure ⟨rfl, GxR.keeps_refl _⟩
      · obtain ⟨cc, u, hcc, rfl⟩ := hPv
        refine wpAny_mono (pel _ B E' cc u s2 m2 rfl J.ok.glob (fun b o q => ?_) hn hm) (fun y s3 r => ⟨⟨cc, hcc, r.1⟩, r.2⟩) fun _ _ q => q
        obtain ⟨q1, q2⟩ := kpB b o q
        exact hk b (List.mem_range.mpr (Heap.lt_size q1)) (fun zz => by
          rcases List.mem_cons.mp zz with zz | zz
          · exact Nat.ne_of_lt q2 zz
          · cases zz) o (hhr b o q1)
    · intro g h5 tk5 gst bare gt sz5 kp5 W5 at0
      simp only [GxR.passing_true, List.length_range] at W5
      refine fin a H1 g _ rest ⟨_, _, _, _, _, W5.in4_1, at0, ?_, fun s9 mv => ?_⟩
      · intro j y sj Qj Ej hy hQj
        obtain ⟨i, hij, cc, hcc, rfl⟩ := hy
        obtain ⟨hj, ej⟩ := List.getElem?_eq_some_iff.mp hij
        rw [List.getElem_range] at ej
        subst ej
        have q9 : a.cps.toList[j]? = some cc := by rw [Array.getElem?_toList]; exact hcc
        have hQ2 : Qj (GxR.trF pb a.cps.toList j) sj := hQj
        rw [GxR.trF_some q9] at hQ2
        exact wpAny_truthy_bool hQ2
      · obtain ⟨more, em⟩ := grown
        have nw : ∀ b u, z.heap.get? b = some u → b ∉ h3.objs.size :: [z.heap.objs.size] := fun b u q hb => by
          have lb := Heap.lt_size q
          rcases List.mem_cons.mp hb with q | q
          · rw [q] at lb
            have q9 : (h3.objs.size : Nat) < z.heap.objs.size := lb
            omega
          · rcases List.mem_cons.mp q with q | q
            · rw [q] at lb; exact Nat.lt_irrefl _ lb
            · cases q
        have J2 := GxR.inv_tab (more := more) (h' := s9.heap) (g' := s9.gens) (d' := s9.drawn) (t' := s9.toks) J isT (fun b u nb q => mv.heap b u (nw b u q) (kp5 b u (kp3 b u nb q)))
          (by rw [← em]; exact mv.heap P _ (nw P _ atP) (kp5 P _ at3)) (AllBare.movedS (J.bare.push bare) mv)
        rw [GxR.sh_eta z s9 mv.os] at J2
        exact ⟨upd H1 P (.tbl (rows ++ more)), ⟨⟨rows ++ more, upd_same, by rw [← em]; exact trip3⟩, fun b nb => upd_ne nb⟩, J2⟩
  refine ⟨nl, ?_⟩
  cases am : codeAmong gp rows.toList with
  | none =>
    refine wpAny_genexprCodeX code (chd.code atP2 trip) (chd.tab atP2) am fun c' h' tk hx hge hlt hco _ htab _ => ?_
    obtain ⟨o1, vs, f1, tf, fl, tg, inF, tx, tt, op, _, _, _, _, _, _, _, _, _, htr, _⟩ := hco
    exact go _ h' tk _ hx (Nat.le_trans hge (Nat.le_of_lt hlt)) htab.2 ⟨_, rfl⟩ htr
  | some cv =>
    refine wpAny_genexprCode_hit code (chd.code atP2 trip) am ?_
    exact go cv (z.heap.push io) z.toks rows (Heap.ExtBut.refl _ _) (Nat.le_refl _) atP2 ⟨#[], by simp⟩ trip

/-- all(e for x in a text) -/
theorem pe_allB {c P : Addr} {e it : Expr} {x : Str} {px p pos gp : Pos} {sc : Scope} {pb : Nat → Bool} {te : TE} {k : Nat}
    (room : Room k X.A) (hg : Gl X "all") (hm : X.mg "all" = none) (tab : GxR.TabB X.base X.mg c P) (code : X.env.code = .ref c) (gs : GxR.GenS X.env sc x) (pit : PE X it te) (pel : EltB X sc x e pb)
    (fold : ∀ v, genFold it X.env v = pure v)
    (he : starEach [.GeneratorExp e [⟨.Name x px, it, [], 0⟩] sc gp] X.env = (false, eval (.GeneratorExp e [⟨.Name x px, it, [], 0⟩] sc gp) X.env) :: starEach [] X.env := by rfl) :
    PE X (.Call (.Name "all" p) [.GeneratorExp e [⟨.Name x px, it, [], 0⟩] sc gp] [] pos) (GxR.tAllS P pb te) := by
  refine ⟨fun pins s σ H Q I want => ?_⟩
  have hb : bootBuiltins "all" = some (.builtin "all") := by decide +kernel
  refine wpAny_Call_Name_kw (ld_blt I hg hm hb ?_)
  refine PyProof.Rows.callWith_builtin1 ?_ he (by rfl)
  rw [he]
  show wpAny _ _ (spliced ((false, eval (.GeneratorExp e [⟨.Name x px, it, [], 0⟩] sc gp) X.env) :: backTo pos (starEach [] X.env))) _ _ s
  refine Calls.spliced_cons (genB (R := fun a H1 => ∀ H2, GxR.Tabbed P H1 H2 → Q (.bl (a.cps.toList.all pb)) H2) room tab code gs pit pel fold I want fun a H1 g s5 hR rd => ?_)
  obtain ⟨fp, wr, G, F, St, W, hst, htr, hI⟩ := rd
  refine Calls.spliced_nil ?_
  refine call_all_walkS (W.self 0 _ _ _ hst ⟨g, fp, wr, G, _, F, St, _, rfl, W, hst, htr, fun s' mv => ?_⟩)
  obtain ⟨H2, hT, J⟩ := hI s' mv
  refine ⟨.bl _, H2, J, rfl, ?_⟩
  rw [GxR.all_signs a pb]
  exact hR H2 hT

/-- x in NAME: NAME a text of the module -/
theorem elt_in {sc : Scope} {x y z : Str} {tz : Tok} {p1 p2 p3 : Pos} (gls : X.base.Ns mainGlobals X.mg) (hk : sc.kind = .function) (hl : sc.names.lookup x = some .local)
    (hy : sc.names.lookup y = some .globalImplicit) (hm : X.mg y = some (.str z tz)) (hd : (x == ("__debug__" : Str)) = false := by decide) (hd2 : (y == ("__debug__" : Str)) = false := by decide) :
    EltB X sc x (.Compare (.Name x p1) [.In] [.Name y p2] p3) (fun c => decide (c ∈ z.cps.toList)) := by
  intro ge B F c t q m hs hgl kb hn hx
  refine wpAny_Compare1 ?_
  refine wpAny_Name (wpAny_loadName_local (by rw [hs]; exact hk) (show ge.scope.names.lookup x = some .local by rw [hs]; exact hl) hn hx ?_) hd
  refine Calls.Name_function_global (by rw [hs]; exact hk) ?_ (Calls.loadGlobal_global (by rw [hgl]; exact gls.keeps kb) hm ?_) hd2
  · show ge.scope.names.lookup y = some .globalImplicit
    rw [hs]; exact hy
  · refine PyProof.Rows.in_str ⟨?_, GxR.keeps_refl _⟩
    rw [PySem.StrLaws.found_one z c]
end
end Kk

namespace Kk
open PySem PySem.Spec PyProof.Rows L2

/-- no table of a code object -/
def NoTb (o : HO) : Prop := ∀ ps, o ≠ .tbl ps
theorem nt_lst {xs : List V} : NoTb (.lst xs) := fun _ h => by cases h
theorem nt_tup {xs : List V} : NoTb (.tup xs) := fun _ h => by cases h
theorem nt_dK {xs : List (Key × V)} : NoTb (.dK xs) := fun _ h => by cases h
theorem nt_frz {o : Obj} {u : HO} : NoTb (.frz o u) := fun _ h => by cases h
/-- what never changes -/
def Fx : HO → Bool
  | .tup _ => true
  | .frz _ _ => true
  | _ => false
/-- what stands stays, but for xs and what the tables grow by; nothing vanishes; tuples stay -/
structure Ex (xs : List Addr) (H H' : Hp) : Prop where
  a : ∀ b o, b ∉ xs → H b = some o → NoTb o → H' b = some o
  c : ∀ b o, H b = some o → Fx o = true → H' b = some o
  t : ∀ P, GxR.TabG H P → GxR.TabG H' P
  f : ∀ b, H' b = none → H b = none
theorem Ex.refl {xs : List Addr} {H : Hp} : Ex xs H H := ⟨fun _ _ _ h _ => h, fun _ _ h _ => h, fun _ h => h, fun _ h => h⟩
theorem Ex.trans {xs : List Addr} {H H1 H2 : Hp} (a : Ex xs H H1) (b : Ex xs H1 H2) : Ex xs H H2 :=
  ⟨fun c o n h t => b.a c o n (a.a c o n h t) t, fun c o h t => b.c c o (a.c c o h t) t, fun P h => b.t P (a.t P h), fun c h => a.f c (b.f c h)⟩
theorem Ex.mono {xs ys : List Addr} {H H' : Hp} (a : Ex xs H H') (s : ∀ b, b ∈ xs → b ∈ ys) : Ex ys H H' := ⟨fun c o n h t => a.a c o (fun q => n (s c q)) h t, a.c, a.t, a.f⟩
theorem Ex.nil {ys : List Addr} {H H' : Hp} (a : Ex [] H H') : Ex ys H H' := a.mono fun _ q => by cases q
theorem tab_upd {H : Hp} {P p : Addr} {o : HO} (t : GxR.TabG H P) (n : ∀ ps, H p ≠ some (.tbl ps)) : GxR.TabG (upd H p o) P := by
  obtain ⟨ps, h, q⟩ := t
  refine ⟨ps, ?_, q⟩
  rw [upd_ne fun z => n ps (by rw [← z]; exact h)]
  exact h
theorem upd_free {H : Hp} {p b : Addr} {o : HO} (h : upd H p o b = none) : H b = none := by
  by_cases z : b = p
  · rw [z, upd_same] at h; cases h
  · rw [upd_ne z] at h; exact h
theorem Ex.new {xs : List Addr} {H : Hp} {p : Addr} {o : HO} (n : H p = none) : Ex xs H (upd H p o) :=
  ⟨fun b u _ h _ => by rw [upd_ne (ne_of_none h n)]; exact h, fun b u h _ => by rw [upd_ne (ne_of_none h n)]; exact h, fun P h => tab_upd h fun ps z => (by rw [n] at z; cases z), fun b h => upd_free h⟩
theorem Ex.put {xs : List Addr} {H : Hp} {p : Addr} {u o : HO} (h0 : H p = some u) (nt : NoTb u) (m : p ∈ xs) (fx : Fx u = false := by rfl) : Ex xs H (upd H p o) :=
  ⟨fun b w nb h _ => by rw [upd_ne fun z => nb (by rw [z]; exact m)]; exact h, fun b w h k => (by
    have nb : b ≠ p := fun z => by rw [z, h0] at h; cases h; rw [fx] at k; cases k
    rw [upd_ne nb]; exact h), fun P h => tab_upd h fun ps z => (by rw [h0] at z; cases z; exact nt _ rfl), fun b h => upd_free h⟩
/-- an object of one's own, made on the way, may have changed -/
theorem Ex.own {xs : List Addr} {H H1 H' : Hp} {p : Addr} (n : H p = none) (e : Ex xs H H1) (a : Ex (p :: xs) H1 H') : Ex xs H H' :=
  ⟨fun b u nb h t => a.a b u (fun q => by
      rcases List.mem_cons.mp q with z | z
      · rw [z, n] at h; cases h
      · exact nb z) (e.a b u nb h t) t, fun b u h k => a.c b u (e.c b u h k) k, fun P h => a.t P (e.t P h), fun b h => e.f b (a.f b h)⟩
theorem Ex.lst {xs : List Addr} {H H' : Hp} {p : Addr} {ys : List V} (a : Ex xs H H') (h : H p = some (.lst ys)) (n : p ∉ xs := by simp) : H' p = some (.lst ys) := a.a p _ n h nt_lst
theorem Ex.dK {xs : List Addr} {H H' : Hp} {p : Addr} {ys : List (Key × V)} (a : Ex xs H H') (h : H p = some (.dK ys)) (n : p ∉ xs := by simp) : H' p = some (.dK ys) := a.a p _ n h nt_dK
theorem Ex.tup {xs : List Addr} {H H' : Hp} {p : Addr} {ys : List V} (a : Ex xs H H') (h : H p = some (.tup ys)) : H' p = some (.tup ys) := a.c p _ h rfl
theorem Ex.seqL {K : PySem.W.Frag} {xs : List Addr} {H H' : Hp} {p : Addr} {ys : List V} (a : Ex xs H H') (h : SqL K H p ys) (n : p ∉ xs := by simp) : SqL K H' p ys := by
  rcases h with (h | ⟨o, h⟩) | h
  · exact .inl (.inl (a.a p _ n h nt_lst))
  · exact .inl (.inr ⟨o, a.c p _ h rfl⟩)
  · exact .inr h
theorem Ex.seqT {K : PySem.W.Frag} {xs : List Addr} {H H' : Hp} {p : Addr} {ys : List V} (a : Ex xs H H') (h : SqT K H p ys) : SqT K H' p ys := by
  rcases h with (h | ⟨o, h⟩) | h
  · exact .inl (.inl (a.c p _ h rfl))
  · exact .inl (.inr ⟨o, a.c p _ h rfl⟩)
  · exact .inr h
theorem Ex.tabbed {xs : List Addr} {H H' : Hp} {P : Addr} (t : GxR.TabG H P) (k : GxR.Tabbed P H H') : Ex xs H H' := by
  obtain ⟨ps, e, _⟩ := t
  have st : ∀ b o, H b = some o → NoTb o → H' b = some o := fun b o h nt => by
    rw [k.2 b fun z => by rw [z, e] at h; cases h; exact nt _ rfl]; exact h
  refine ⟨fun b o _ h nt => st b o h nt, fun b o h fx => st b o h fun ps z => (by rw [z] at fx; cases fx), fun Q q => ?_, fun b h => ?_⟩
  · by_cases z : Q = P
    · rw [z]; exact k.1
    · obtain ⟨qs, h, r⟩ := q
      exact ⟨qs, by rw [k.2 Q z]; exact h, r⟩
  · by_cases z : b = P
    · obtain ⟨⟨qs, h', _⟩, _⟩ := k
      rw [z, h'] at h; cases h
    · rw [k.2 b z] at h; exact h

/-! data: texts, ints, truths, None, and tuples of these -/
mutual
inductive Tp (K : PySem.W.Frag) (H : Hp) : V → PyData → Prop
  | non : Tp K H .non .none
  | bl (b : Bool) : Tp K H (.bl b) (.bool b)
  | int (i : Int) : Tp K H (.int i) (.int i)
  | str (x : Str) : Tp K H (.str x) (.str x)
  | tup {a : Addr} {xs : List V} {ds : List PyData} : SqT K H a xs → TpAll K H xs ds → Tp K H (.ref a) (.tuple ds)
inductive TpAll (K : PySem.W.Frag) (H : Hp) : List V → List PyData → Prop
  | nil : TpAll K H [] []
  | cons {v : V} {vs : List V} {d : PyData} {ds : List PyData} : Tp K H v d → TpAll K H vs ds → TpAll K H (v :: vs) (d :: ds)
end
section
variable {K : PySem.W.Frag} {H H' : Hp} {xs : List Addr}
mutual
theorem Tp.ex (e : Ex xs H H') : ∀ {v : V} {d : PyData}, Tp K H v d → Tp K H' v d
  | _, _, .non => .non
  | _, _, .bl b => .bl b
  | _, _, .int i => .int i
  | _, _, .str x => .str x
  | _, _, .tup h r => .tup (e.seqT h) (TpAll.ex e r)
theorem TpAll.ex (e : Ex xs H H') : ∀ {vs : List V} {ds : List PyData}, TpAll K H vs ds → TpAll K H' vs ds
  | _, _, .nil => .nil
  | _, _, .cons h r => .cons (Tp.ex e h) (TpAll.ex e r)
end
mutual
theorem Tp.dp : ∀ {v : V} {d : PyData}, Tp K H v d → Dp K H v d
  | _, _, .non => .non
  | _, _, .bl b => .bl b
  | _, _, .int i => .int i
  | _, _, .str x => .str x
  | _, _, .tup h r => .tup h (TpAll.dp r)
theorem TpAll.dp : ∀ {vs : List V} {ds : List PyData}, TpAll K H vs ds → DpAll K H vs ds
  | _, _, .nil => .nil
  | _, _, .cons h r => .cons (Tp.dp h) (TpAll.dp r)
end
theorem TpAll.len {vs : List V} {ds : List PyData} (h : TpAll K H vs ds) : vs.length = ds.length := by
  induction vs generalizing ds with
  | nil => cases h; rfl
  | cons v vs ih => cases h with | cons a b => rw [List.length_cons, List.length_cons, ih b]
theorem TpAll.get {vs : List V} {ds : List PyData} (h : TpAll K H vs ds) : ∀ {i : Nat} {v : V}, vs[i]? = some v → ∃ d, ds[i]? = some d ∧ Tp K H v d := by
  induction vs generalizing ds with
  | nil => intro i v e; simp at e
  | cons v0 vs ih =>
    cases h with
    | cons a b =>
      intro i v e
      cases i with
      | zero => cases e; exact ⟨_, rfl, a⟩
      | succ i => exact ih b (i := i) (by simpa using e)
theorem TpAll.app {vs us : List V} {ds es : List PyData} (h : TpAll K H vs ds) (g : TpAll K H us es) : TpAll K H (vs ++ us) (ds ++ es) := by
  induction vs generalizing ds with
  | nil => cases h; exact g
  | cons v vs ih => cases h with | cons a b => exact .cons a (ih b)
theorem TpAll.strs : ∀ ws : List Str, TpAll K H (ws.map V.str) (ws.map PyData.str)
  | [] => .nil
  | w :: ws => .cons (.str w) (TpAll.strs ws)
theorem Tp.new {p : Addr} {ts : List V} {ds : List PyData} (n : H p = none) (h : TpAll K H ts ds) : Tp K (upd H p (.tup ts)) (.ref p) (.tuple ds) :=
  .tup (.of upd_same) (h.ex (.new (xs := []) n))
end

/-- a def whose code object is known: its generators' codes go into its own table -/
theorem okC {P : Program} {w : World} {K : PySem.W.Frag} {mg : Str → Option Value} {base : Heap} {x qual : Str} {st : Stmt} {f c : Addr} {N ps : List Str} {k : Nat} {sp : Sp}
    {oc : Value} {od an : Option Addr} {osl : Array (Option Value)} {kV doc pm ct : Value}
    (lk : K.lookup f = some ⟨oc, od, .func (PySem.W.fnOf x qual (defArgs st) (defBody st) (defScope st) .none kV doc pm an (.ref c) ct), osl⟩) (hc : PySem.W.codeIn K (.ref c) qual = true)
    (S : FnScope N ps (defScope st)) (len : ∀ vs H Q E, sp vs H Q E → vs.length = ps.length)
    (body : ∀ (A : Around) (outer : List Env) (s : Shared) (H : Hp) (vs : List V) (Q : VK) (E : XK), Room k (A.deeper (envOfC qual (defScope st) s.heap.objs.size f (.ref c))) → sp vs H Q E →
      ∃ t, PSs (cxOf CX0 P w K mg base N qual (defScope st) f (.ref c) A outer s H E).nox (defBody st) t ∧ t { nx := fun _ H' => Q .non H', rt := Q } (start N vs) H) :
    FnOk P w K mg base CX0 (k + 1) f (PySem.W.fnOf x qual (defArgs st) (defBody st) (defScope st) .none kV doc pm an (.ref c) ct) ps sp := by
  refine fn_of lk hc S len fun A outer s H vs Q E hr hsp => ?_
  obtain ⟨t, h, q⟩ := body A outer s H vs Q E hr hsp
  exact ⟨t, h.nox, q⟩
/-- a def that may be called: its promise, where it stands, how its arguments come -/
structure Cl (P : Program) (w : World) (K : PySem.W.Frag) (mg : Str → Option Value) (base : Heap) (k : Nat) (x : Str) (ps : List Str) (sp : Sp) (f : Addr) (fd : FuncData) : Prop where
  g : FnOk P w K mg base CX0 k f fd ps sp
  k : PySem.W.keepIn K (.ref f) = true
  b : Binds K fd ps []
  m : mg x = some (.ref f)
/-- where a def stands -/
structure At (K : PySem.W.Frag) (mg : Str → Option Value) (x : Str) (st : Stmt) (ps : List Str) (f : Addr) (fd : FuncData) : Prop where
  F : Fun K x x st f fd
  b : Binds K fd ps []
  m : mg x = some (.ref f)
theorem At.cl {P : Program} {w : World} {K : PySem.W.Frag} {mg : Str → Option Value} {base : Heap} {x : Str} {st : Stmt} {ps : List Str} {f : Addr} {fd : FuncData} {j k : Nat} {sp : Sp} (A : At K mg x st ps f fd) (g : FnOk P w K mg base CX0 j f fd ps sp) (h : j ≤ k) :
    Cl P w K mg base k x ps sp f fd := ⟨g.mono h, A.F.kp, A.b, A.m⟩
/-- nothing is promised of a call that never comes -/
theorem ok_never {P : Program} {w : World} {K : PySem.W.Frag} {mg : Str → Option Value} {base : Heap} {k : Nat} {ps : List Str} {f : Addr} {fd : FuncData} : FnOk P w K mg base CX0 k f fd ps (fun _ _ _ _ => False) :=
  ⟨fun _ _ _ _ h => h.elim, fun _ _ _ _ _ _ _ _ _ _ _ _ _ h => h.elim⟩
def rLenK (K : PySem.W.Frag) : List V → Hp → VK → Prop := fun xs H Q => ∃ p ys, xs = [V.ref p] ∧ (SqL K H p ys ∨ SqT K H p ys) ∧ Q (V.int ys.length) H
/-- within a comprehension: the written part is the def's own -/
theorem call_lenK {X : Cx} {K : PySem.W.Frag} (h : X.K = K) : CallR X (.builtin "len") (rLenK K) := by subst h; exact call_len_seq
theorem ix_listK {X : Cx} {K : PySem.W.Frag} (h : X.K = K) : IxR X (rIxL K) := by subst h; exact ix_list
theorem ix_tupK {X : Cx} {K : PySem.W.Frag} (h : X.K = K) : IxR X (rIxT K) := by subst h; exact ix_tup
theorem op_mul_str {X : Cx} : OpR X (binaryOp .Mult) (fun x y H Q => ∃ z n, x = .str z ∧ y = .int n ∧ MulOk z n ∧ Q (.str (Txt.mul z n)) H) := by
  intro pins s σ H x y v u Q I rx ry h
  obtain ⟨z, n, rfl, rfl, ok, q⟩ := h
  obtain ⟨t, rfl⟩ := rx
  obtain ⟨t', rfl⟩ := ry
  exact SB.mul ok fun t2 k => ⟨.str _, H, I.tok k, ⟨_, rfl⟩, q⟩
/-- a list held against the empty one -/
theorem op_eq_nil {X : Cx} {k : Nat} (hr : Room k X.A) : OpR X (compareOp .Eq) (fun x y H Q => ∃ a b xs, x = .ref a ∧ y = .ref b ∧ SqL X.K H a xs ∧ SqL X.K H b [] ∧ Q (.bl xs.isEmpty) H) := by
  intro pins s σ H x y v u Q I rx ry h
  obtain ⟨a, b, xs, rfl, rfl, ha, hb, q⟩ := h
  cases (show v = Value.ref a from rx)
  cases (show u = Value.ref b from ry)
  obtain ⟨its, r, pl, hz⟩ := I.list ha
  obtain ⟨its2, r2, pl2, hz2⟩ := I.list hb
  have e2 : its2 = [] := List.length_eq_zero_iff.mp r2.length.symm
  subst e2
  cases xs with
  | nil =>
    have e1 : its = [] := List.length_eq_zero_iff.mp r.length.symm
    subst e1
    exact SeqAt.eq_listAt (e := fun _ => true) pl.isList pl2.isList rfl hr.units0 (fun j h1 _ => absurd h1 (Nat.not_lt_zero j)) ⟨.bl true, H, I, rfl, q⟩
  | cons z zs =>
    have e1 : its.length = zs.length + 1 := r.length.symm
    refine SeqAt.eq_list_lengthsAt pl.isList pl2.isList ?_ hr.units0 ⟨.bl false, H, I, rfl, q⟩
    simp [e1]
end Kk

set_option maxHeartbeats 1000000
namespace Kk
open PySem PySem.Spec PyProof.Rows L2 GenW
/-! a generator expression whose element may do anything: its own frame's context -/
def gxC (X : Cx) (A : Around) (ge : Env) (N : List Str) (sc : Shared) (H : Hp) (ex : List Addr) (pn : List (Addr × Obj)) : Cx where
  prog := X.prog
  w := X.w
  K := X.K
  mg := X.mg
  base := X.base
  A := A.deeper ge
  N := N
  s_0 := sc
  H_0 := H
  env := ge
  outer := X.stack
  stack := ge :: X.stack
  ex := ex
  fn := fun _ => false
  calm := true
  pn := pn
  xe := fun _ _ => False
/-- what holds at any halt of it -/
structure Out (P : Program) (w : World) (outer : List Env) (ex : List Addr) (H H' : Hp) (sc s1 : Shared) : Prop where
  os : s1.os = sc.os
  bare : AllBare s1.gens
  un : Un (frs outer) ex H H' sc.heap s1.heap
  hok : HOk P w H' s1.heap
theorem Out.of {Y : Cx} {pins : List (Addr × Obj)} {σ : L2.St} {H : Hp} {s : Shared} (I : Inv Y pins σ H s) : Out Y.prog Y.w Y.outer Y.ex Y.H_0 H Y.s_0 s := ⟨I.os, I.bare, I.base, I.hok⟩
/-- while it sleeps: its consumer's own objects may change -/
structure Slp (cs : List Addr) (cp' : List (Addr × Obj)) (s s' : Shared) : Prop where
  os : s'.os = s.os
  bare : AllBare s'.gens
  keep : ∀ b o, b ∉ cs → s.heap.get? b = some o → s'.heap.get? b = some o
  own : ∀ p ∈ cp', s'.heap.get? p.1 = some p.2
/-- a consumer: its own objects, and what they hold by what came so far -/
structure Cons where
  cs : List Addr
  cr : List V → List (Addr × Obj) → Prop
  ok : ∀ ys cp, cr ys cp → cp.map Prod.fst = cs ∧ ∀ p ∈ cp, ∀ v, p.2.data ≠ .cell v
theorem woken {Y : Cx} {cs : List Addr} {cp cp' ip : List (Addr × Obj)} {σ : L2.St} {H : Hp} {s s' : Shared} (hm : cp.map Prod.fst = cs) (hm' : cp'.map Prod.fst = cs) (hd : ∀ p ∈ cp', ∀ v, p.2.data ≠ .cell v)
    (hpn : ∀ p ∈ Y.pn, p.1 ∉ cs) (hip : ∀ p ∈ ip, p.1 ∉ cs) (hA : ∀ b ∈ cs, Y.s_0.heap.objs.size ≤ b ∧ ∀ x c, Y.env.cells.lookup x = some c → c ≠ b) (I : Inv Y (cp ++ ip) σ H s) (z : Slp cs cp' s s') : Inv Y (cp' ++ ip) σ H s' := by
  have at1 : ∀ b ∈ cs, H b = none ∧ b ≠ Y.env.locals ∧ b ∉ Y.fs := fun b hb => by
    rw [← hm] at hb
    obtain ⟨p, hp, rfl⟩ := List.mem_map.mp hb
    obtain ⟨_, h2, h3, h4, _⟩ := I.pin p (List.mem_append_right _ (List.mem_append_left _ hp))
    exact ⟨h2, h3, h4⟩
  have I0 : Inv Y ip σ H s := I.pins_of fun p hp => I.pin p (List.mem_append_right _ (List.mem_append_right _ hp))
  have nt : ∀ b u, H b = some u → b ∉ cs := fun b u q hb => by rw [(at1 b hb).1] at q; cases q
  obtain ⟨z1, z2, z3, z4⟩ := z
  obtain ⟨hh, g, d, t, o⟩ := s'
  have ho : o = s.os := z1
  subst ho
  have J : Inv Y ip σ H { s with heap := hh, gens := g, drawn := d, toks := t } := by
    refine I0.step (g' := g) (t' := t) (d' := d) (ch := cs) (fun b hb => ?_)
      (fun b ob _ _ hc q _ => z3 b ob hc q) (fun b ob _ _ hc q _ => ⟨ob.slots, z3 b ob hc q⟩) (fun _ _ _ _ n => n) (fun b ob hc q => ⟨ob, z3 b ob hc q⟩)
      (fun _ _ q => q) (fun _ _ _ q => q) (fun b ps q => ⟨#[], by rw [q]; simp⟩) (fun m hm => ?_) (fun b u q => ?_) z2
    · refine ⟨.inr (hA b hb).1, (at1 b hb).2.1, (hA b hb).2, fun p hp e => ?_⟩
      rcases List.mem_append.mp hp with hp | hp
      · exact hpn p hp (e ▸ hb)
      · exact hip p hp (e ▸ hb)
    · obtain ⟨ob, es, ep, ho, r⟩ := hm
      exact ⟨ob, es, ep, z3 _ ob (fun hb => (at1 _ hb).2.1 rfl) ho, r⟩
    · refine (I0.hok b u q).stay (fun c v hc y => z3 c v ?_ y) (fun _ y => y) fun _ _ y => y
      rcases hc with y | y
      · rw [y]; exact nt b u q
      · exact nt c _ y
  refine J.pins_of fun p hp => ?_
  rcases List.mem_append.mp hp with hp | hp
  · have hb : p.1 ∈ cs := by rw [← hm']; exact List.mem_map.mpr ⟨p, hp, rfl⟩
    exact ⟨z4 p hp, (at1 _ hb).1, (at1 _ hb).2.1, (at1 _ hb).2.2, hd p hp⟩
  · exact J.pin p (List.mem_append_right _ hp)

/-- the end of a run -/
def LEnd (P : Program) (w : World) (outer : List Env) (ex : List Addr) (H : Hp) (sc : Shared) (c : Cons) (Q : List V → Hp → Prop) : Nat → Shared → Shared → Prop := fun n s₀ s1 =>
  ∃ H' ys cp, Out P w outer ex H H' sc s1 ∧ c.cr ys cp ∧ (∀ p ∈ cp, s1.heap.get? p.1 = some p.2 ∧ H' p.1 = none) ∧ ys.length ≤ sizeLine ∧ Q ys H'
/-- an item is handed out; Yd: what is wanted of it, and whether the run goes on -/
def LItem (P : Program) (w : World) (outer : List Env) (ex : List Addr) (H : Hp) (sc : Shared) (c : Cons) (Yd : List V → V → Hp → Prop → Prop) (a : Addr) (g : Nat) : Protocol := fun n s₀ v s1 kap =>
  ∃ ys x cp H' nx, RelV x v ∧ Out P w outer ex H H' sc s1 ∧ s1.heap.NoLimit ∧ s1.heap.IsGen a g ∧ c.cr ys cp ∧ (∀ p ∈ cp, s1.heap.get? p.1 = some p.2 ∧ H' p.1 = none) ∧ n + 1 + ys.length = sizeLine ∧ Yd ys x H' nx ∧
    (nx → ∀ s' cp', c.cr (ys ++ [x]) cp' → Slp c.cs cp' s1 s' → kap (.send .none) s')
/-- the turns of a generator expression, read -/
def GxTurn (J : It) (g : TG) (tt : TT) (te : TE) (σ' : L2.St) (Q : List V → Hp → Prop) (Yd : List V → V → Hp → Prop → Prop) (W : Nat → Nat → List V → Hp → Prop) : Prop :=
  ∀ i m ys H, W i m ys H → (J.stop i H ∧ Q ys H) ∨ (J.go i H ∧ ∃ Nx : List V → Hp → Prop, (∀ ys' H', Nx ys' H' → ∃ m', m' < m ∧ W (i + 1) m' ys' H') ∧ ∀ x H', J.yld i H x H' → g x σ' H' fun σ2 H2 => (∀ (j : Nat) (v : V), σ'[j]? = some (some v) → σ2[j]? = some (some v)) ∧ tt σ2 H2 fun b H3 =>
    if b = true then te σ2 H3 fun y H4 => ys.length < sizeLine ∧ Yd ys y H4 (Nx (ys ++ [y]) H4) else Nx ys H3)
/-- over a walk: Pv by the turn, what came so far and the heap -/
theorem gx_it {J : It} {n : Nat} {G : Hp → Prop} {Yw : Nat → Hp → V → Hp → Prop} (w : Walk J n G Yw) {g : TG} {tt : TT} {te : TE} {σ' : L2.St} {Q : List V → Hp → Prop} {Yd : List V → V → Hp → Prop → Prop} {H1 : Hp}
    (Pv : Nat → List V → Hp → Prop) (h0 : Pv 0 [] H1) (hG : ∀ i ys H, i ≤ n → Pv i ys H → G H)
    (hs : ∀ i x ys H H', i < n → Pv i ys H → Yw i H x H' → g x σ' H' fun σ2 H2 => (∀ (j : Nat) (v : V), σ'[j]? = some (some v) → σ2[j]? = some (some v)) ∧ tt σ2 H2 fun b H3 =>
      if b = true then te σ2 H3 fun y H4 => ys.length < sizeLine ∧ Yd ys y H4 (Pv (i + 1) (ys ++ [y]) H4) else Pv (i + 1) ys H3) (hd : ∀ ys H, Pv n ys H → Q ys H) :
    ∃ W : Nat → Nat → List V → Hp → Prop, (∃ m, W 0 m [] H1) ∧ GxTurn J g tt te σ' Q Yd W := by
  refine ⟨fun i m ys H => m = n - i ∧ i ≤ n ∧ Pv i ys H, ⟨n, by simp, Nat.zero_le _, h0⟩, ?_⟩
  rintro i m ys H ⟨rfl, hi, p⟩
  have q := hG i ys H hi p
  by_cases hlt : i < n
  · exact .inr ⟨w.goes i H hlt q, Pv (i + 1), fun ys' H' p' => ⟨n - (i + 1), by omega, rfl, hlt, p'⟩, fun x H' y => hs i x ys H H' hlt p (w.yields i H x H' hlt q y)⟩
  · have e : i = n := by omega
    subst e
    exact .inl ⟨w.stops H q, hd ys H p⟩

section
variable {Y : Cx} {A : Around} {tg elt iter : Expr} {ifs : List Expr} {scope : Scope} {pos : Pos} {it a : Addr} {gi : Nat} {fp : List Addr} {tn : Nat → Heap → Prop} {J : It} {g : TG} {tt : TT} {te : TE} {σ' : L2.St}
  {Q : List V → Hp → Prop} {Yd : List V → V → Hp → Prop → Prop} {W : Nat → Nat → List V → Hp → Prop} {c : Cons}
theorem seg_gx (hco : Y.env.scope.isCoroutine = false) (hcalm : Y.calm = true) (hover : A.over (.compLoop (.GeneratorExp elt [⟨tg, iter, ifs, 0⟩] scope pos) 0 (.ref it) .none Y.env) [] = Y.A) (hxe : Y.xe = fun _ _ => False)
    (T : Turn Y.prog Y.w Y.K tg J fp it tn) (hfp : ∀ b ∈ fp, b ∈ Y.ex) (hfc : ∀ b ∈ fp, b ∉ c.cs) (hpc : ∀ p ∈ Y.pn, p.1 ∉ c.cs) (hpf : ∀ p ∈ Y.pn, p.1 ∉ fp)
    (hA : ∀ b ∈ c.cs, Y.s_0.heap.objs.size ≤ b ∧ ∀ x k, Y.env.cells.lookup x = some k → k ≠ b) (hgen : ∀ h : Heap, (∀ p ∈ Y.pn, h.get? p.1 = some p.2) → h.IsGen a gi)
    (pg : PG Y tg g) (pt : PTs Y ifs tt) (pe : PE Y elt te) (turn : GxTurn J g tt te σ' Q Yd W) (hl' : σ'.length = Y.N.length) :
    ∀ (m i n : Nat) (ys : List V) (cp : List (Addr × Obj)) (H : Hp) (s₀ s : Shared), W i m ys H → n + ys.length = sizeLine → c.cr ys cp → Inv Y cp σ' H s → tn i s.heap → (∀ b ∈ fp, H b = none) →
      Seg (model Y.prog Y.w) A (fun n s₀ r s1 => r = .ok .next ∧ LEnd Y.prog Y.w Y.outer Y.ex Y.H_0 Y.s_0 c Q n s₀ s1) (LItem Y.prog Y.w Y.outer Y.ex Y.H_0 Y.s_0 c Yd a gi) n s₀
        (.compLoop (.GeneratorExp elt [⟨tg, iter, ifs, 0⟩] scope pos) 0 (.ref it) .none Y.env) ((model Y.prog Y.w).den (.compLoop (.GeneratorExp elt [⟨tg, iter, ifs, 0⟩] scope pos) 0 (.ref it) .none Y.env)) [] s := by
  have no : ∀ {e : Value} {s : Shared} {Z : Prop}, Y.xe e s → Z := fun {e s Z} h => by rw [hxe] at h; exact h.elim
  have stat : ∀ {pins : List (Addr × Obj)} {σ : L2.St} {H' : Hp} {s' : Shared}, Inv Y pins σ H' s' → (∀ p ∈ pins, p.1 ∉ fp) → (∀ b ∈ fp, H' b = none) → ∀ b ∈ fp, FpOk Y pins H' b := fun {pins σ H' s'} I' hp hn b hb =>
    ⟨hn b hb, (I'.ok.exf b (hfp b hb)).1, I'.ok.exfs b (hfp b hb), .inl (hfp b hb), fun x k e => (I'.ok.exf b (hfp b hb)).2 x k e, fun p hq e => by
      rcases List.mem_append.mp hq with q | q
      · exact hpf p q (e ▸ hb)
      · exact hp p q (e ▸ hb)⟩
  have cpf : ∀ {ys : List V} {cp : List (Addr × Obj)}, c.cr ys cp → ∀ p ∈ cp, p.1 ∉ fp := fun {ys cp} h p hp hf => by
    refine hfc p.1 hf ?_
    rw [← (c.ok ys cp h).1]
    exact List.mem_map.mpr ⟨p, hp, rfl⟩
  intro m
  induction m using Nat.strongRecOn with
  | ind m ih =>
    intro i n ys cp H s₀ s hw hn hcr I st fn
    show Seg _ A _ _ n s₀ _ ((compTurn (.GeneratorExp elt [⟨tg, iter, ifs, 0⟩] scope pos) 0 (.ref it) .none Y.env).onRaise (leaving Y.env)) [] s
    rw [compTurn_gen, Sem.onRaise_eq_wrap]
    refine seg_bind_wrap (wpAny_standAt ?_)
    rcases turn i m ys H hw with ⟨stop, q⟩ | ⟨go, Nx, hNx, step⟩
    · refine seg_bind_wrap ?_
      rw [hover]
      refine thn (T.done Y rfl rfl rfl hcalm i cp s σ' H _ I (stat I (cpf hcr) fn) st stop) fun r s1 ⟨hr, I1⟩ => ?_
      subst hr
      refine seg_end (.ok .next) ⟨rfl, H, ys, cp, Out.of I1, hcr, fun p hp => ?_, by omega, q⟩
      obtain ⟨h1, h2, _⟩ := I1.pin p (List.mem_append_right _ hp)
      exact ⟨h1, h2⟩
    · refine seg_bind_wrap ?_
      rw [hover]
      refine thn (T.item Y rfl rfl rfl hcalm i cp s σ' H _ I (stat I (cpf hcr) fn) st go) fun r s1 ⟨u, hr, h1⟩ => ?_
      subst hr
      refine seg_bind_wrap ?_
      rw [hover]
      refine thn h1 fun _ s2 ⟨x, H2, I2, r2, y2, st2, fn2⟩ => ?_
      have I2' := I2.pinned (stat I2 (cpf hcr) fn2) (T.obj _ _ st2)
      refine seg_bind_wrap ?_
      rw [hover]
      refine wpAny_mono (pg.run _ s2 _ H2 x u _ I2' r2 (step x H2 y2)) (fun _ s3 ⟨σ3, H3, I3, sub, q3⟩ => ?_) fun _ _ z => no z
      refine seg_bind_wrap ?_
      rw [hover]
      refine wpAny_mono (pt.run _ s3 σ3 H3 _ I3 q3) (fun b s4 ⟨H4, I4, q4⟩ => ?_) fun _ _ z => no z
      have next : ∀ {s' : Shared} {H' : Hp} {cp' : List (Addr × Obj)}, Inv Y (cp' ++ pinsAt fp s2.heap) σ3 H' s' → Inv Y cp' σ' H' s' ∧ tn (i + 1) s'.heap ∧ ∀ b ∈ fp, H' b = none := fun {s' H' cp'} I' => by
        have pin' : ∀ b ∈ fp, ∀ o, s2.heap.get? b = some o → s'.heap.get? b = some o ∧ H' b = none := fun b hb o e =>
          let z := I'.pin (b, o) (List.mem_append_right _ (List.mem_append_right _ (mem_pinsAt hb e)))
          ⟨z.1, z.2.1⟩
        refine ⟨(I'.unpinned).weak (hl'.trans I'.len.symm) sub, T.keep _ _ _ st2 fun b hb o e => (pin' b hb o e).1, fun b hb => ?_⟩
        obtain ⟨o, e, _⟩ := T.obj _ _ st2 b hb
        exact (pin' b hb o e).2
      cases b with
      | false =>
        simp only [Bool.false_eq_true, if_false] at q4 ⊢
        obtain ⟨m', hm, w'⟩ := hNx _ _ q4
        obtain ⟨J1, J2, J3⟩ := next I4
        exact seg_again rfl (ih m' hm (i + 1) n ys cp H4 s₀ s4 w' hn hcr J1 J2 J3)
      | true =>
        simp only [if_true] at q4 ⊢
        have hy : ∀ v, yieldOut Y.env v = yieldValue v := fun v => by simp only [yieldOut, hco, Bool.false_eq_true, if_false]
        simp only [hy]
        rw [Sem.bind_eq_wrap', Sem.bind_eq_wrap', Sem.wrap_wrap, Sem.wrap_wrap]
        refine seg_wrap ?_
        rw [hover]
        refine wpAny_mono (pe.run _ s4 σ3 H4 _ I4 q4) (fun y s5 ⟨yv, H5, I5, r5, hlt, q5⟩ => ?_) fun _ _ z => no z
        obtain ⟨n, rfl⟩ : ∃ k, n = k + 1 := ⟨n - 1, by omega⟩
        refine seg_at (seg_yield rfl rfl rfl ⟨ys, yv, cp, H5, _, r5, Out.of I5, I5.nolimit, hgen _ fun p hp => (I5.pin p (List.mem_append_left _ hp)).1, hcr, fun p hp => ?_, by omega, q5, ?_⟩)
        · obtain ⟨h1, h2, _⟩ := I5.pin p (List.mem_append_right _ (List.mem_append_left _ hp))
          exact ⟨h1, h2⟩
        · intro hnx s' cp' hcr' z
          obtain ⟨m', hm, w'⟩ := hNx _ _ hnx
          have I6 := woken (c.ok _ _ hcr).1 (c.ok _ _ hcr').1 (c.ok _ _ hcr').2 hpc (fun p hp => hfc _ (of_pinsAt hp).1) hA I5 z
          obtain ⟨J1, J2, J3⟩ := next I6
          exact seg_again rfl (ih m' hm (i + 1) n (ys ++ [yv]) cp' H5 s' s' w' (by rw [List.length_append, List.length_singleton]; omega) hcr' J1 J2 J3)
end
end Kk

set_option maxHeartbeats 1000000
namespace Kk
open PySem PySem.Spec PyProof.Rows L2 GenW
/-- the generator expression's scope -/
structure GxS (osc sc : Scope) : Prop where
  kind : sc.kind = .function
  co : sc.isCoroutine = false
  cell : ∀ y ∈ sc.names, y.2 ≠ .cell
  dot : sc.names.lookup (".0" : Str) = some NameKind.local
  free : ∀ y ∈ sc.names, y.2 = .free → osc.names.lookup y.1 = some .cell ∨ osc.names.lookup y.1 = some .free
/-- its names: nt of its own, then those of around, by their places there -/
structure GxN (N : List Str) (osc sc : Scope) (N' : List Str) (nt : Nat) (js : List Nat) : Prop where
  len : N'.length = nt + js.length
  fr : ∀ i j, js[i]? = some j → ∃ y, N'[nt + i]? = some y ∧ N[j]? = some y ∧ sc.names.lookup y = some .free ∧ (osc.names.lookup y = some .cell ∨ osc.names.lookup y = some .free)
theorem GxN.none {N : List Str} {osc sc : Scope} {N' : List Str} : GxN N osc sc N' N'.length [] := ⟨by simp, fun i j h => by simp at h⟩
def gst (nt : Nat) (js : List Nat) (σ : L2.St) : L2.St := List.replicate nt Option.none ++ js.map fun j => (σ[j]?).join
abbrev geOf (X : Cx) (sc : Scope) (C : Addr) (code : Value) : Env := genEnv sc (cloFrom X.env.cells sc.names []) C code builtinsNs X.env
theorem inv_gx {X : Cx} {pins : List (Addr × Obj)} {σ : L2.St} {H : Hp} {sc s2 : Shared} {A : Around} {scope : Scope} {C : Addr} {code : Value} {N' : List Str} {nt : Nat} {js : List Nat} {fp : List Addr} {pn cp : List (Addr × Obj)} {m0 : Str → Option Value}
    (J : Inv X pins σ H sc) (gs : GxS X.env.scope scope) (gn : GxN X.N X.env.scope scope N' nt js) (hA : A.handled = Option.none) (hfr : A.frames = some X.stack) (hC : sc.heap.objs.size ≤ C) (hfp : ∀ b ∈ fp, FpOk X pins H b ∧ b < sc.heap.objs.size)
    (kept : ∀ b o, sc.heap.get? b = some o → s2.heap.get? b = some o) (ns : s2.heap.Ns C m0) (os : s2.os = sc.os) (bare : AllBare s2.gens) (hpn : ∀ p ∈ pn ++ cp, s2.heap.get? p.1 = some p.2 ∧ C < p.1 ∧ ∀ v, p.2.data ≠ .cell v) :
    Inv (gxC X A (geOf X scope C code) N' sc H fp pn) cp (gst nt js σ) H s2 := by
  have hfree : ∀ y ∈ scope.names, y.2 = .free → ∃ c, X.env.cells.lookup y.1 = some c := fun y hy e => J.ok.has _ (gs.free y hy e)
  have cm : ∀ {y c}, (geOf X scope C code).cells.lookup y = some c → X.env.cells.lookup y = some c := fun {y c} hm => by
    have hm : (cloFrom X.env.cells scope.names []).lookup y = some c := hm
    rcases cloFrom_mem (PySem.mem_of_lookup hm) with hm | ⟨h1, rfl⟩
    · cases hm
    · obtain ⟨c, hc⟩ := hfree _ h1 rfl
      have hc : X.env.cells.lookup y = some c := hc
      rw [hc]; rfl
  have look : ∀ {y}, scope.names.lookup y = some .free → ∃ c, (geOf X scope C code).cells.lookup y = some c ∧ X.env.cells.lookup y = some c := fun {y} hl => by
    obtain ⟨c', e'⟩ := mem_lookup (cloFrom_has (cells := X.env.cells) (acc := []) (PySem.mem_of_lookup hl))
    exact ⟨c', e', cm e'⟩
  have clt : ∀ {y c}, X.env.cells.lookup y = some c → c < sc.heap.objs.size := fun {y c} e => by
    obtain ⟨v, q⟩ := J.cell y c e
    exact q.lt
  refine ⟨⟨J.ok.mod, gs.kind, J.ok.glob, rfl, hC, fun y z c e1 e2 => J.ok.inj y z c (cm e1) (cm e2), fun y hy => ?_, fun y c hq _ => ?_, fun _ => hA, Around.frames_deeper hfr, .inr ⟨rfl, rfl⟩, fun b hb => ⟨?_, fun y c e z => ?_⟩, J.bs, Nat.le_trans J.ok.bsz J.sz, fun b o e hb => ?_, fun b hb z => ?_, J.stack, J.stkFree⟩,
    os, bare, Un.kept kept, ⟨m0, ns, fun i y v h1 h2 h3 => ?_⟩, fun y c e => ?_, J.hok.fresh hC, fun y c e => J.freeC y c (cm e), fun p hp => ?_, J.hok.kept kept, ?_⟩
  · rcases hy with hy | hy
    · exact absurd rfl (gs.cell _ (PySem.mem_of_lookup hy))
    · obtain ⟨c, h1, _⟩ := look hy
      exact ⟨c, h1⟩
  · cases hq
  · exact Nat.ne_of_lt (Nat.lt_of_lt_of_le (hfp b hb).2 hC)
  · exact (hfp b hb).1.2.2.2.2.1 y c (cm e) z
  · obtain ⟨_, _, _, h4, _⟩ := (hfp b hb).1
    rcases h4 with h4 | h4
    · exact J.ok.noex b o e h4
    · exact absurd (Nat.lt_of_lt_of_le (Heap.lt_size e) (Nat.le_trans J.ok.bsz h4)) (Nat.lt_irrefl _)
  · obtain ⟨_, h2, h3, _⟩ := (hfp b hb).1
    rcases List.mem_cons.mp (J.stkSub b z) with q | q
    · exact h2 q
    · exact h3 q
  · have h2 : (gst nt js σ)[i]? = some (some v) := h2
    unfold gst at h2
    by_cases hi : i < nt
    · rw [List.getElem?_append_left (by simpa using hi), List.getElem?_replicate] at h2
      rw [if_pos hi] at h2; cases h2
    · rw [List.getElem?_append_right (by simpa using hi), List.getElem?_map, List.length_replicate] at h2
      cases hj : js[i - nt]? with
      | none => rw [hj] at h2; cases h2
      | some j =>
        rw [hj] at h2
        have hv : (σ[j]?).join = some v := by simpa using h2
        obtain ⟨y', e1, e2, e3, e4⟩ := gn.fr _ _ hj
        have ei : nt + (i - nt) = i := by omega
        rw [ei] at e1
        have h1 : N'[i]? = some y := h1
        rw [h1] at e1; cases e1
        have hs : σ[j]? = some (some v) := by
          cases q : σ[j]? with
          | none => rw [q] at hv; cases hv
          | some o => rw [q] at hv; cases o with
            | none => cases hv
            | some w => cases hv; rfl
        obtain ⟨m, hm, hlk⟩ := J.loc
        have vis : Vis X.env.scope y := by
          rcases e4 with q | q
          · exact .inr (.inl q)
          · exact .inr (.inr q)
        obtain ⟨u, ru, hL⟩ := hlk j y v e2 hs vis
        refine ⟨u, ru, .inr ⟨.inr e3, ?_⟩⟩
        obtain ⟨c, c1, c2⟩ := look e3
        rcases hL with ⟨q, _⟩ | ⟨_, c', c3, c4⟩
        · have q : X.env.scope.names.lookup y = some .local := q
          rcases e4 with z | z <;> (rw [z] at q; cases q)
        · rw [c2] at c3; cases c3
          exact ⟨c, c1, c4.keeps kept⟩
  · obtain ⟨v, q⟩ := J.cell y c (cm e)
    exact ⟨v, q.keeps kept⟩
  · obtain ⟨h1, h2, h3⟩ := hpn p hp
    have h2' : sc.heap.objs.size ≤ p.1 := Nat.le_trans hC (Nat.le_of_lt h2)
    refine ⟨h1, J.hok.fresh h2', Nat.ne_of_gt h2, fun z => ?_, h3⟩
    have z : p.1 ∈ frs X.stack := z
    rcases List.mem_cons.mp (J.stkSub _ z) with q | q
    · have := J.lt; rw [q] at h2'; exact absurd (Nat.lt_of_lt_of_le this h2') (Nat.lt_irrefl _)
    · exact J.nofs h2' q
  · show (gst nt js σ).length = N'.length
    rw [gn.len]; unfold gst; simp
end Kk

set_option maxHeartbeats 1000000
namespace Kk
open PySem PySem.Spec PyProof.Rows L2 GenW
theorem over_gx {A : Around} {elt tg iter : Expr} {ifs : List Expr} {scope : Scope} {pos : Pos} {it acc : Value} {env : Env} : A.over (.compLoop (.GeneratorExp elt [⟨tg, iter, ifs, 0⟩] scope pos) 0 it acc env) [] = A.deeper env := by
  first
    | rfl
    | (obtain ⟨hd, d, fr, gs, u⟩ := A; simp [Around.over, Around.deeper, marksOver, frameCount, unitsOf, envsOf, guardsOf, pushEnvs, pushGuards, Code.envs, Code.env?, Code.isFrame, Code.guards, Code.isGuard, Code.weight, Code.frames, Code.isCreation, Code.isCaller, Code.cUnits])
section
variable {prog : Program} {w : World} {A : Around} {R : GenEnd} {Y : Protocol} {n : Nat} {s₀ s : Shared} {tg elt iter : Expr} {ifs : List Expr} {scope : Scope} {pos : Pos} {it : Addr} {env : Env}
theorem seg_gxStart (loop : Seg (model prog w) A R Y n s₀ (.compLoop (.GeneratorExp elt [⟨tg, iter, ifs, 0⟩] scope pos) 0 (.ref it) .none env) ((model prog w).den (.compLoop (.GeneratorExp elt [⟨tg, iter, ifs, 0⟩] scope pos) 0 (.ref it) .none env)) [] s)
    (self : ∀ (A : Around) (Q : Value → Shared → Prop) (E : Value → Shared → Prop), Q (.ref it) s → wpAny (model prog w) A (pyIter (.ref it)) Q E s) :
    Seg (model prog w) A R Y n s₀ (.compStart (.GeneratorExp elt [⟨tg, iter, ifs, 0⟩] scope pos) 0 (.ref it) .none env) ((model prog w).den (.compStart (.GeneratorExp elt [⟨tg, iter, ifs, 0⟩] scope pos) 0 (.ref it) .none env)) [] s := by
  show Seg _ A _ _ _ s₀ _ ((compStart (.GeneratorExp elt [⟨tg, iter, ifs, 0⟩] scope pos) 0 (.ref it) .none env).onRaise (leaving env)) [] s
  unfold compStart
  rw [Sem.onRaise_eq_wrap]
  show Seg _ A _ _ _ s₀ _ ((ask >>= _).wrap _ _ _ _) [] s
  refine seg_bind_wrap (wpAny_askSetting ?_)
  split
  · exact seg_again rfl loop
  · first
      | exact seg_bind_wrap (wpAny_rule (seg_bind_wrap (wpAny_standAt (seg_bind_wrap (self _ _ _ (seg_again rfl loop))))))
      | (refine seg_bind_wrap (wpAny_rule ?_); show Seg _ A _ _ _ s₀ _ ((standAt iter.pos >>= _).wrap _ _ _ _) [] s; exact seg_bind_wrap (wpAny_standAt (seg_bind_wrap (self _ _ _ (seg_again rfl loop)))))
end
/-- a generator that has not begun -/
def GxMade (X : Cx) (pins : List (Addr × Obj)) (σ : L2.St) (k : Nat) (Q : List V → Hp → Prop) (Yd : List V → V → Hp → Prop → Prop) (u : Value) (s5 : Shared) : Prop :=
  ∃ (a : Addr) (g : Nat) (c : Code) (H1 : Hp) (sc : Shared) (fp : List Addr), u = .ref a ∧ Inv X pins σ H1 sc ∧ ExOk X pins fp ∧ sc.heap.objs.size ≤ a ∧ a < s5.heap.objs.size ∧ s5.heap.IsGen a g ∧ s5.gens[g]? = some (.fresh c) ∧ s5.os = sc.os ∧ AllBare s5.gens ∧ s5.heap.NoLimit ∧
    (∀ b o, sc.heap.get? b = some o → s5.heap.get? b = some o) ∧
    ∀ (A : Around) (cn : Cons) (cp : List (Addr × Obj)) (s2 : Shared), Room k A → A.frames = some X.stack → (∀ b ∈ cn.cs, s5.heap.objs.size ≤ b) → (∀ b o, s5.heap.get? b = some o → s2.heap.get? b = some o) → cn.cr [] cp → (∀ p ∈ cp, s2.heap.get? p.1 = some p.2) →
      s2.os = sc.os → AllBare s2.gens →
      Seg (model X.prog X.w) A (fun n s₀ r s1 => r = .ok .next ∧ LEnd X.prog X.w X.stack fp H1 sc cn Q n s₀ s1) (LItem X.prog X.w X.stack fp H1 sc cn Yd a g) sizeLine s2 c ((model X.prog X.w).den c) [] s2
/-- the reading of a generator expression -/
def tGx (P : Addr) (wi : TI) (g : TG) (tt : TT) (te : TE) (nt : Nat) (js : List Nat) : L2.St → Hp → (List V → Hp → Prop) → (List V → V → Hp → Prop → Prop) → Prop := fun σ H Q Yd =>
  wi σ H fun J H1 => GxR.TabG H1 P ∧ ∀ H2, GxR.Tabbed P H1 H2 → ∃ W : Nat → Nat → List V → Hp → Prop, (∃ m, W 0 m [] H2) ∧ GxTurn J g tt te (gst nt js σ) Q Yd W
section
variable {X : Cx} {pins : List (Addr × Obj)} {σ : L2.St} {H : Hp} {s : Shared}
theorem gx_make {c P : Addr} {tg elt iter : Expr} {ifs : List Expr} {gp : Pos} {scope : Scope} {wi : TI} {g : TG} {tt : TT} {te : TE} {k : Nat} {N' : List Str} {nt : Nat} {js : List Nat} {Q : List V → Hp → Prop} {Yd : List V → V → Hp → Prop → Prop}
    (room : Room (k + 1) X.A) (tab : GxR.TabB X.base X.mg c P) (code : X.env.code = .ref c) (gs : GxS X.env.scope scope) (gn : GxN X.N X.env.scope scope N' nt js) (pit : PI X tg iter wi)
    (pg : ∀ (A : Around) (C : Addr) (cv : Value) (s : Shared) (H : Hp) (fp : List Addr) (pn : List (Addr × Obj)), Room k (A.deeper (geOf X scope C cv)) → PG (gxC X A (geOf X scope C cv) N' s H fp pn) tg g)
    (pt : ∀ (A : Around) (C : Addr) (cv : Value) (s : Shared) (H : Hp) (fp : List Addr) (pn : List (Addr × Obj)), Room k (A.deeper (geOf X scope C cv)) → PTs (gxC X A (geOf X scope C cv) N' s H fp pn) ifs tt)
    (pe : ∀ (A : Around) (C : Addr) (cv : Value) (s : Shared) (H : Hp) (fp : List Addr) (pn : List (Addr × Obj)), Room k (A.deeper (geOf X scope C cv)) → PE (gxC X A (geOf X scope C cv) N' s H fp pn) elt te)
    (fold : ∀ v, genFold iter X.env v = pure v) (I : Inv X pins σ H s) (want : tGx P wi g tt te nt js σ H Q Yd) :
    wpAny (model X.prog X.w) X.A (eval (.GeneratorExp elt [⟨tg, iter, ifs, 0⟩] scope gp) X.env) (GxMade X pins σ (k + 1) Q Yd) X.xe s := by
  have deep : X.A.depth < recursionLimit := by have q := room.dp; omega
  have hfree : ∀ y ∈ scope.names, y.2 = .free → ∃ c, X.env.cells.lookup y.1 = some c := fun y hy e => I.ok.has _ (gs.free y hy e)
  refine wpAny_GeneratorExp_make gs.co (closure_ok hfree) gs.cell gs.dot gs.kind deep ?_ fold
  refine thn (pit.run pins s σ H _ I want) fun xv z h1 => thn h1 fun itv z2 h2 => ?_
  obtain ⟨it, fp, tn, J, H2, rfl, I2, T, st2, f2, ⟨rows, isT, trip⟩, rest⟩ := h2
  have atP : z2.heap.get? P = some { cls := .none, data := .fields rows } := I2.hok P _ isT
  have ltP : P < z2.heap.objs.size := Heap.lt_size atP
  have chd : PySem.W.CodeHd z2.heap c P := tab.code.keeps fun b u q => I2.bk b u q
  have flt : ∀ b ∈ fp, b < z2.heap.objs.size := fun b hb => by
    obtain ⟨o, e, _⟩ := T.obj _ _ st2 b hb
    exact Heap.lt_size e
  have fnP : ∀ b ∈ fp, b ≠ P := fun b hb q => by
    have := (f2 b hb).1
    rw [q, isT] at this; cases this
  refine ⟨I2.nolimit, ?_⟩
  have go : ∀ (cv : Value) (h3 : Heap) (tk : Nat) (rows' : Array Value), Heap.ExtBut P z2.heap h3 → z2.heap.objs.size ≤ h3.objs.size →
      h3.get? P = some { cls := .none, data := .fields rows' } → (∃ more, rows' = rows ++ more) → TriplesOk rows'.toList →
      wpAny (model X.prog X.w) X.A (builtinsFor X.env.globals X.env.builtins) (fun bi s₄ =>
        ∀ h', h'.Ns s₄.heap.objs.size (fun y => if y = ".0" then some (.ref it) else none) → Heap.SameBut s₄.heap.objs.size (s₄.heap.push { cls := .type "frame", data := .dict #[] }) h' →
          GxMade X pins σ (k + 1) Q Yd (.ref h'.objs.size) { s₄ with
            gens := s₄.gens.push (.fresh (.compStart (.GeneratorExp elt [⟨tg, iter, ifs, 0⟩] scope gp) 0 (.ref it) .none (genEnv scope (cloFrom X.env.cells scope.names []) s₄.heap.objs.size cv bi X.env))),
            toks := s₄.toks + 1 + 1 + 1,
            heap := h'.push { cls := .type "generator", data := .fields #[.int s₄.gens.size 0, .str "<genexpr>" (s₄.toks + 1), .str (X.env.qual ++ "<genexpr>") (s₄.toks + 1 + 1)] } }) X.xe { z2 with heap := h3, toks := tk } := by
    intro cv h3 tk rows' ext le3 at3 grown trip3
    obtain ⟨bm, ob, b1, b2, b3, b4, b5, b6, b7, b8⟩ := tab.bm
    obtain ⟨more, em⟩ := grown
    have kp3 : ∀ b u, b ≠ P → z2.heap.get? b = some u → h3.get? b = some u := fun b u nb q => ext b u nb q
    have J3 := GxR.inv_tab (more := more) (h' := h3) (g' := z2.gens) (d' := z2.drawn) (t' := tk) I2 isT kp3 (by rw [← em]; exact at3) I2.bare
    generalize hH3 : upd H2 P (.tbl (rows ++ more)) = H3 at J3
    have tabd : GxR.Tabbed P H2 H3 := by
      rw [← hH3]
      exact ⟨⟨rows ++ more, upd_same, by rw [← em]; exact trip3⟩, fun b nb => upd_ne nb⟩
    obtain ⟨W, ⟨m0, w0⟩, turn⟩ := rest H3 tabd
    refine wpAny_builtinsFor (m := X.mg) (by rw [J3.ok.glob]; exact J3.mod.glob.keeps J3.bk) b1 b2 (kp3 _ _ b4 (I2.bk _ _ b5)) b6 b7 b8 ?_
    intro h' hn' hs'
    generalize hsc : ({ z2 with heap := h3, toks := tk } : Shared) = sc at J3 hn' hs' ⊢
    have sch : sc.heap = h3 := by rw [← hsc]
    have st3 : tn 0 sc.heap := T.keep _ _ _ st2 fun b hb o e => by rw [sch]; exact kp3 b o (fnP b hb) e
    have f3 : ∀ b ∈ fp, FpOk X pins H3 b ∧ b < sc.heap.objs.size := fun b hb => by
      refine ⟨⟨?_, (f2 b hb).2⟩, by rw [sch]; exact Nat.lt_of_lt_of_le (flt b hb) le3⟩
      rw [tabd.2 b (fnP b hb)]
      exact (f2 b hb).1
    have hsz : h'.objs.size = sc.heap.objs.size + 1 := by rw [hs'.1, Heap.size_push]
    have keep' : ∀ b o, sc.heap.get? b = some o → h'.get? b = some o := fun b o e => hs'.extBut b o (Nat.ne_of_lt (Heap.lt_size e)) (Heap.get?_push_of_some _ e)
    generalize hgo : ({ cls := .type "generator", data := .fields #[.int sc.gens.size 0, .str "<genexpr>" (sc.toks + 1), .str (X.env.qual ++ "<genexpr>") (sc.toks + 1 + 1)] } : Obj) = go
    have gofr : go.isFreed = false := by rw [← hgo]; rfl
    have keep5 : ∀ b o, sc.heap.get? b = some o → (h'.push go).get? b = some o := fun b o e => Heap.get?_push_of_some _ (keep' b o e)
    have hpushed : (h'.push go).get? h'.objs.size = some go := Heap.get?_push_size _ gofr
    have hgen : ∀ h : Heap, h.get? h'.objs.size = some go → h.IsGen h'.objs.size sc.gens.size := fun h e => ⟨go, _, _, e, by rw [← hgo], by rw [← hgo], by rw [← hgo]⟩
    have bare5 : AllBare (sc.gens.push (.fresh (.compStart (.GeneratorExp elt [⟨tg, iter, ifs, 0⟩] scope gp) 0 (.ref it) .none (geOf X scope sc.heap.objs.size cv)))) := AllBare.push J3.bare rfl
    refine ⟨h'.objs.size, sc.gens.size, _, H3, sc, fp, rfl, J3, fun b hb => ⟨(f3 b hb).1.2.2.2.1, (f3 b hb).1.2.1, (f3 b hb).1.2.2.2.2.1, (f3 b hb).1.2.2.2.2.2⟩, by omega, ?_, hgen _ hpushed, Array.getElem?_push_size .., rfl, bare5, J3.nolimit.keeps keep5, keep5, ?_⟩
    · show _ < (h'.push go).objs.size
      rw [Heap.size_push]; exact Nat.lt_succ_self _
    intro A cn cp s2 hr hfr hcs hk2 hcr hcp hos hba
    have kept : ∀ b o, sc.heap.get? b = some o → s2.heap.get? b = some o := fun b o e => hk2 b o (keep5 b o e)
    have ns2 : s2.heap.Ns sc.heap.objs.size (fun y => if y = ".0" then some (.ref it) else none) := by
      refine (hn'.push go).at' fun o e => hk2 _ o e
    have hea : s2.heap.get? h'.objs.size = some go := hk2 _ go hpushed
    have csz : ∀ b ∈ cn.cs, h'.objs.size < b := fun b hb => by
      have q := hcs b hb
      have q : (h'.push go).objs.size ≤ b := q
      rw [Heap.size_push] at q; exact q
    have cpa : ∀ p ∈ cp, p.1 ∈ cn.cs := fun p hp => by
      rw [← (cn.ok _ _ hcr).1]; exact List.mem_map.mpr ⟨p, hp, rfl⟩
    have IY : Inv (gxC X A (geOf X scope sc.heap.objs.size cv) N' sc H3 fp [(h'.objs.size, go)]) cp (gst nt js σ) H3 s2 := by
      refine inv_gx J3 gs gn hr.hd hfr (Nat.le_refl _) f3 kept ns2 hos hba fun p hp => ?_
      rcases List.mem_append.mp hp with q | q
      · rw [List.mem_singleton.mp q]
        exact ⟨hea, by show sc.heap.objs.size < h'.objs.size; omega, fun v q => by rw [← hgo] at q; cases q⟩
      · refine ⟨hcp p q, ?_, (cn.ok _ _ hcr).2 p q⟩
        have := csz _ (cpa p q)
        show sc.heap.objs.size < p.1
        omega
    have rk : Room k (A.deeper (geOf X scope sc.heap.objs.size cv)) := hr.deeper _
    have st5 : tn 0 s2.heap := T.keep _ _ _ st3 fun b hb o e => kept b o e
    refine seg_gxStart ?_ fun A' Q' E' h => T.self A' 0 s2 Q' E' st5 h
    refine seg_gx (Y := gxC X A (geOf X scope sc.heap.objs.size cv) N' sc H3 fp [(h'.objs.size, go)]) gs.co rfl over_gx rfl T (fun b hb => hb) (fun b hb hc => ?_) (fun p hp hc => ?_) (fun p hp hc => ?_) (fun b hb => ⟨?_, fun x q e z => ?_⟩) (fun h hh => hgen h (hh _ (List.mem_singleton.mpr rfl)))
      (pg A _ cv sc H3 fp _ rk) (pt A _ cv sc H3 fp _ rk) (pe A _ cv sc H3 fp _ rk) turn IY.len m0 0 sizeLine [] cp H3 s2 s2 w0 rfl hcr IY st5 fun b hb => (f3 b hb).1.1
    · have h1 : h'.objs.size < b := csz b hc
      have h2 : b < sc.heap.objs.size := (f3 b hb).2
      exact absurd (Nat.lt_trans h1 h2) (by rw [hsz]; exact Nat.not_lt.mpr (Nat.le_succ _))
    · rw [List.mem_singleton.mp hp] at hc
      exact Nat.lt_irrefl _ (csz _ hc)
    · rw [List.mem_singleton.mp hp] at hc
      have := (f3 _ hc).2
      have : h'.objs.size < sc.heap.objs.size := this
      omega
    · have := csz b hb
      show sc.heap.objs.size ≤ b
      omega
    · obtain ⟨v, q2⟩ := IY.cell x q e
      obtain ⟨v3, q3⟩ : ∃ v, sc.heap.IsCell q v := by
        have e : (cloFrom X.env.cells scope.names []).lookup x = some q := e
        rcases cloFrom_mem (PySem.mem_of_lookup e) with hm | ⟨h1, h2⟩
        · cases hm
        · obtain ⟨c9, hc9⟩ := hfree _ h1 rfl
          have hc9 : X.env.cells.lookup x = some c9 := hc9
          rw [hc9] at h2
          rw [show q = c9 from h2]
          exact J3.cell x c9 hc9
      have h1 : q < sc.heap.objs.size := q3.lt
      have h2 : h'.objs.size < b := csz b hb
      rw [z] at h1
      exact absurd (Nat.lt_trans h2 h1) (by rw [hsz]; exact Nat.not_lt.mpr (Nat.le_succ _))
  cases am : codeAmong gp rows.toList with
  | none =>
    refine wpAny_genexprCodeX code (chd.code atP trip) (chd.tab atP) am fun c' h' tk hx hge hlt hco _ htab _ => ?_
    obtain ⟨o1, vs, f1, tf, fl, tg', inF, tx, tt', op, _, _, _, _, _, _, _, _, _, htr, _⟩ := hco
    exact go _ h' tk _ hx (Nat.le_trans hge (Nat.le_of_lt hlt)) htab.2 ⟨_, rfl⟩ htr
  | some cv =>
    refine wpAny_genexprCode_hit code (chd.code atP trip) am ?_
    exact go cv z2.heap z2.toks rows (Heap.ExtBut.refl _ _) (Nat.le_refl _) atP ⟨#[], by simp⟩ trip
end
end Kk

set_option maxHeartbeats 1000000
namespace Kk
open PySem PySem.Spec PyProof.Rows L2 GenW
section
variable {P : Program} {w : World} {outer : List Env} {ex : List Addr} {H : Hp} {sc : Shared} {cn : Cons} {Q : List V → Hp → Prop} {Yd : List V → V → Hp → Prop → Prop} {A : Around} {a : Addr} {g : Nat}
/-- the generator, ready to be woken, for m items at most -/
structure Wk (P : Program) (w : World) (outer : List Env) (ex : List Addr) (H : Hp) (sc : Shared) (cn : Cons) (Q : List V → Hp → Prop) (Yd : List V → V → Hp → Prop → Prop) (A : Around) (a : Addr) (g : Nat) (m : Nat) (s : Shared) : Prop where
  gen : s.heap.IsGen a g
  lim : s.heap.NoLimit
  goes : ∃ gs, s.gens[g]? = some gs ∧ gs.Goes (model P w) A.in1 (fun n s₀ r s1 => r = .ok .next ∧ LEnd P w outer ex H sc cn Q n s₀ s1) (LItem P w outer ex H sc cn Yd a g) m (.send .none) (s.setGen g .running)
theorem gx_next {m : Nat} {s : Shared} {Qn : Option Value → Shared → Prop} {E : Value → Shared → Prop} (hh : A.handled = none) (hd : A.depth < recursionLimit) (hac : a ∉ cn.cs) (hcc : cStatics ∉ cn.cs) (K : Wk P w outer ex H sc cn Q Yd A a g m s)
    (hitem : ∀ v s1 ys x cp H' nx, RelV x v → Out P w outer ex H H' sc s1 → cn.cr ys cp → (∀ p ∈ cp, s1.heap.get? p.1 = some p.2 ∧ H' p.1 = none) → ys.length < sizeLine → Yd ys x H' nx →
      (nx → ∀ s' cp', s'.gens = s1.gens → cn.cr (ys ++ [x]) cp' → Slp cn.cs cp' s1 s' → ∃ m', m = m' + 1 ∧ Wk P w outer ex H sc cn Q Yd A a g m' s') → Qn (some v) s1)
    (hend : ∀ s1, LEnd P w outer ex H sc cn Q m s s1 → Qn none s1) : wpAny (model P w) A (pyNext (.ref a)) Qn E s := by
  obtain ⟨hg, hl, gs, hgs, hgo⟩ := K
  have hgl : g < s.gens.size := (Array.getElem?_eq_some_iff.mp hgs).1
  refine wpAny_gsz (n := g + 1) hgl (wpAny_pyNext_genexpQ (P := fun n s₀ s1 => LEnd P w outer ex H sc cn Q n s₀ s1) hh hl hd hg hgs hgo (fun v s₁ gs' hbare hv hsz => ?_) fun s₁ hp h' hk hsz => ?_)
  · obtain ⟨ys, x, cp, H', nx, rv, out, lim1, gen1, hcr, hcp, hn, hy, hk⟩ := hv
    refine hitem v _ ys x cp H' nx rv ⟨out.os, allBare_setGen out.bare hbare, out.un, out.hok⟩ hcr hcp (by omega) hy fun hnx s' cp' hgens hcr' z => ?_
    have z2 : Slp cn.cs cp' s₁ (s'.setGen g .running) := ⟨z.os, allBare_setGen z.bare rfl, z.keep, z.own⟩
    have hk2 := hk hnx _ cp' hcr' z2
    cases m with
    | zero => exact False.elim hk2
    | succ m =>
      refine ⟨m, rfl, ?_, ?_, gs', ?_, hk2⟩
      · obtain ⟨o, nm, qn, ho, r⟩ := gen1
        exact ⟨o, nm, qn, z.keep a o hac ho, r⟩
      · obtain ⟨mc, hns, hnn⟩ := lim1
        exact ⟨mc, hns.at' fun o e => z.keep _ o hcc e, hnn⟩
      · rw [hgens]
        have q : (s₁.setGen g gs').gens.size = s₁.gens.size := setGen_size _ _ _
        have hsz' : g + 1 ≤ (s₁.setGen g gs').gens.size := hsz
        exact setGen_at (by omega)
  · obtain ⟨H', ys, cp, out, hcr, hcp, hle, hq⟩ := hp
    exact hend _ ⟨H', ys, cp, ⟨out.os, allBare_setGen out.bare rfl, out.un.trans (Un.kept hk), out.hok.kept hk⟩, hcr, fun p hp => ⟨hk _ _ (hcp p hp).1, (hcp p hp).2⟩, hle, hq⟩
end
/-- a consumer that keeps nothing -/
def c0 : Cons := ⟨[], fun _ cp => cp = [], fun ys cp h => by subst h; exact ⟨rfl, fun p hp => by cases hp⟩⟩
theorem Slp.refl {s : Shared} (h : AllBare s.gens) : Slp [] [] s s := ⟨rfl, h, fun _ _ _ e => e, fun p hp => by cases hp⟩
section
variable {P : Program} {w : World} {outer : List Env} {ex : List Addr} {H : Hp} {sc : Shared} {Q : Hp → Prop} {QF : Hp → Prop} {A : Around} {a : Addr} {g : Nat} {R : Result → Shared → Prop}
/-- all: the end by True, at a False the end -/
def ydAll (QF : Hp → Prop) : List V → V → Hp → Prop → Prop := fun _ y H nx => ∃ b, y = .bl b ∧ if b = true then nx else QF H
def ydAny (QT : Hp → Prop) : List V → V → Hp → Prop → Prop := fun _ y H nx => ∃ b, y = .bl b ∧ if b = true then QT H else nx
theorem gx_all (hh : A.handled = none) (hd : A.depth < recursionLimit) (hT : ∀ s' H', Out P w outer ex H H' sc s' → Q H' → R (.ok (.ret (.bool true))) s') (hF : ∀ s' H', Out P w outer ex H H' sc s' → QF H' → R (.ok (.ret (.bool false))) s') :
    ∀ (m : Nat) (s : Shared), Wk P w outer ex H sc c0 (fun _ => Q) (ydAll QF) A.in1 a g m s → codeAny (model P w) A (.builtin "all.loop" ⟨[.ref a], []⟩) R s := by
  intro m
  induction m with
  | zero =>
    intro s K
    refine codeAny_builtin F.entry_all_loop ?_
    rw [Around.under_plainId F.plain_all_loop _]
    show wpAny _ A.in1 (pyNext (.ref a) >>= _) _ _ s
    refine wpAny_bind (gx_next (A := A.in1) hh hd (by simp [c0]) (by simp [c0]) K (fun v s1 ys x cp H' nx rv out hcr hcp hlt hy hk => ?_) fun s1 he => ?_)
    · obtain ⟨b, rfl, hb⟩ := hy
      obtain rfl : v = Value.bool b := rv
      refine wpAny_bind (wpAny_holding (wpAny_truthy_bool ?_))
      refine wpAny_bind (wpAny_letGo ?_)
      cases b with
      | true =>
        obtain ⟨m', e, _⟩ := hk hb s1 [] rfl rfl (Slp.refl out.bare)
        cases e
      | false =>
        simp only [Bool.false_eq_true, if_false] at hb ⊢
        exact wpAny_bind (wpAny_rule (wpAny_pure (hF s1 H' out hb)))
    · obtain ⟨H', ys, cp, out, _, _, _, hq⟩ := he
      exact wpAny_bind (wpAny_rule (wpAny_pure (hT s1 H' out hq)))
  | succ m ih =>
    intro s K
    refine codeAny_builtin F.entry_all_loop ?_
    rw [Around.under_plainId F.plain_all_loop _]
    show wpAny _ A.in1 (pyNext (.ref a) >>= _) _ _ s
    refine wpAny_bind (gx_next (A := A.in1) hh hd (by simp [c0]) (by simp [c0]) K (fun v s1 ys x cp H' nx rv out hcr hcp hlt hy hk => ?_) fun s1 he => ?_)
    · obtain ⟨b, rfl, hb⟩ := hy
      obtain rfl : v = Value.bool b := rv
      refine wpAny_bind (wpAny_holding (wpAny_truthy_bool ?_))
      refine wpAny_bind (wpAny_letGo ?_)
      cases b with
      | true =>
        simp only [if_true] at hb ⊢
        obtain ⟨m', e, K'⟩ := hk hb s1 [] rfl rfl (Slp.refl out.bare)
        cases e
        exact wpAny_pure ⟨plainId_quiet F.plain_all_loop _, ih s1 K'⟩
      | false =>
        simp only [Bool.false_eq_true, if_false] at hb ⊢
        exact wpAny_bind (wpAny_rule (wpAny_pure (hF s1 H' out hb)))
    · obtain ⟨H', ys, cp, out, _, _, _, hq⟩ := he
      exact wpAny_bind (wpAny_rule (wpAny_pure (hT s1 H' out hq)))
theorem gx_any (hh : A.handled = none) (hd : A.depth < recursionLimit) (hT : ∀ s' H', Out P w outer ex H H' sc s' → QF H' → R (.ok (.ret (.bool true))) s') (hF : ∀ s' H', Out P w outer ex H H' sc s' → Q H' → R (.ok (.ret (.bool false))) s') :
    ∀ (m : Nat) (s : Shared), Wk P w outer ex H sc c0 (fun _ => Q) (ydAny QF) A.in1 a g m s → codeAny (model P w) A (.builtin "any.loop" ⟨[.ref a], []⟩) R s := by
  intro m
  induction m with
  | zero =>
    intro s K
    refine codeAny_builtin F.entry_any_loop ?_
    rw [Around.under_plainId F.plain_any_loop _]
    show wpAny _ A.in1 (pyNext (.ref a) >>= _) _ _ s
    refine wpAny_bind (gx_next (A := A.in1) hh hd (by simp [c0]) (by simp [c0]) K (fun v s1 ys x cp H' nx rv out hcr hcp hlt hy hk => ?_) fun s1 he => ?_)
    · obtain ⟨b, rfl, hb⟩ := hy
      obtain rfl : v = Value.bool b := rv
      refine wpAny_bind (wpAny_holding (wpAny_truthy_bool ?_))
      refine wpAny_bind (wpAny_letGo ?_)
      cases b with
      | false =>
        obtain ⟨m', e, _⟩ := hk hb s1 [] rfl rfl (Slp.refl out.bare)
        cases e
      | true =>
        simp only [if_true] at hb ⊢
        exact wpAny_bind (wpAny_rule (wpAny_pure (hT s1 H' out hb)))
    · obtain ⟨H', ys, cp, out, _, _, _, hq⟩ := he
      exact wpAny_bind (wpAny_rule (wpAny_pure (hF s1 H' out hq)))
  | succ m ih =>
    intro s K
    refine codeAny_builtin F.entry_any_loop ?_
    rw [Around.under_plainId F.plain_any_loop _]
    show wpAny _ A.in1 (pyNext (.ref a) >>= _) _ _ s
    refine wpAny_bind (gx_next (A := A.in1) hh hd (by simp [c0]) (by simp [c0]) K (fun v s1 ys x cp H' nx rv out hcr hcp hlt hy hk => ?_) fun s1 he => ?_)
    · obtain ⟨b, rfl, hb⟩ := hy
      obtain rfl : v = Value.bool b := rv
      refine wpAny_bind (wpAny_holding (wpAny_truthy_bool ?_))
      refine wpAny_bind (wpAny_letGo ?_)
      cases b with
      | false =>
        simp only [Bool.false_eq_true, if_false] at hb ⊢
        obtain ⟨m', e, K'⟩ := hk hb s1 [] rfl rfl (Slp.refl out.bare)
        cases e
        exact wpAny_pure ⟨plainId_quiet F.plain_any_loop _, ih s1 K'⟩
      | true =>
        simp only [if_true] at hb ⊢
        exact wpAny_bind (wpAny_rule (wpAny_pure (hT s1 H' out hb)))
    · obtain ⟨H', ys, cp, out, _, _, _, hq⟩ := he
      exact wpAny_bind (wpAny_rule (wpAny_pure (hF s1 H' out hq)))
end
end Kk

set_option maxHeartbeats 1000000
namespace Kk
open PySem PySem.Spec PyProof.Rows L2 GenW
/-- a consumer that fills the list at S -/
def cL (S : Addr) : Cons := ⟨[S], fun ys cp => ∃ (acc : Array Value) (c : Nat), cp = [(S, lstObj acc c)] ∧ Vals ys acc.toList, fun ys cp h => by
  obtain ⟨acc, c, rfl, _⟩ := h
  exact ⟨rfl, fun p hp v q => by rw [List.mem_singleton.mp hp] at q; cases q⟩⟩
def ydOn : List V → V → Hp → Prop → Prop := fun _ _ _ nx => nx
section
variable {P : Program} {w : World} {outer : List Env} {ex : List Addr} {H : Hp} {sc : Shared} {Q : List V → Hp → Prop} {A : Around} {a S : Addr} {g : Nat} {R : Result → Shared → Prop} {res : Value}
theorem gx_extend (hh : A.handled = none) (hd : A.depth < recursionLimit) (hSa : S ≠ a) (hSc : S ≠ cStatics)
    (hend : ∀ s' acc c H' ys, Out P w outer ex H H' sc s' → s'.heap.get? S = some (lstObj acc c) → H' S = none → Vals ys acc.toList → ys.length ≤ sizeLine → Q ys H' → R (.ok (.ret res)) s') :
    ∀ (m : Nat) (s : Shared), Wk P w outer ex H sc (cL S) Q ydOn A.in1 a g m s → codeAny (model P w) A (.builtin "list.extend.loop" ⟨[.ref S, .ref a, res], []⟩) R s := by
  have hac : a ∉ (cL S).cs := fun h => hSa (List.mem_singleton.mp h).symm
  have hcc : cStatics ∉ (cL S).cs := fun h => hSc (List.mem_singleton.mp h).symm
  intro m
  induction m with
  | zero =>
    intro s K
    refine codeAny_builtin F.entry_extend_loop ?_
    rw [Around.under_plainId F.plain_extend_loop _]
    show wpAny _ A.in1 (pyNext (.ref a) >>= _) _ _ s
    refine wpAny_bind (gx_next (A := A.in1) hh hd hac hcc K (fun v s1 ys x cp H' nx rv out hcr hcp hlt hy hk => ?_) fun s1 he => ?_)
    · obtain ⟨acc, c, rfl, hv⟩ := hcr
      have hS : s1.heap.get? S = some (lstObj acc c) := (hcp _ (List.mem_singleton.mpr rfl)).1
      obtain ⟨m', e, _⟩ := hk hy { s1 with heap := s1.heap.update S (Obj.mapSeq (·.push v)) } [(S, lstObj (acc.push v) _)] rfl ⟨_, _, rfl, by rw [Array.toList_push]; exact hv.append (.cons rv .nil)⟩
        ⟨rfl, out.bare, fun b o hb e => (Heap.get?_update_other _ _ (fun z => hb (List.mem_singleton.mpr z.symm))).trans e, fun p hp => by rw [List.mem_singleton.mp hp]; exact Heap.get?_update_self _ hS rfl⟩
      cases e
    · obtain ⟨H', ys, cp, out, hcr, hcp, hle, hq⟩ := he
      obtain ⟨acc, c, rfl, hv⟩ := hcr
      obtain ⟨q1, q2⟩ := hcp _ (List.mem_singleton.mpr rfl)
      exact wpAny_pure (hend s1 acc c H' ys out q1 q2 hv hle hq)
  | succ m ih =>
    intro s K
    refine codeAny_builtin F.entry_extend_loop ?_
    rw [Around.under_plainId F.plain_extend_loop _]
    show wpAny _ A.in1 (pyNext (.ref a) >>= _) _ _ s
    refine wpAny_bind (gx_next (A := A.in1) hh hd hac hcc K (fun v s1 ys x cp H' nx rv out hcr hcp hlt hy hk => ?_) fun s1 he => ?_)
    · obtain ⟨acc, c, rfl, hv⟩ := hcr
      have hS : s1.heap.get? S = some (lstObj acc c) := (hcp _ (List.mem_singleton.mpr rfl)).1
      have hasz : acc.size = ys.length := by
        have e1 := hv.length
        have e2 : acc.toList.length = acc.size := by simp
        omega
      show wpAny _ A.in1 (updateSeq S (·.push v) >>= _) _ _ _
      refine wpAny_bind ?_
      refine wpAny_updateSeq hS rfl (wpAny_pure ⟨plainId_quiet F.plain_extend_loop _, ?_⟩) (by show acc.size ≤ sizeLine; omega) (by show (acc.push v).size ≤ sizeLine + 1; rw [Array.size_push]; omega)
      obtain ⟨m', e, K'⟩ := hk hy { s1 with heap := s1.heap.update S (Obj.mapSeq (·.push v)) } [(S, lstObj (acc.push v) _)] rfl ⟨_, _, rfl, by rw [Array.toList_push]; exact hv.append (.cons rv .nil)⟩
        ⟨rfl, out.bare, fun b o hb e => (Heap.get?_update_other _ _ (fun z => hb (List.mem_singleton.mpr z.symm))).trans e, fun p hp => by rw [List.mem_singleton.mp hp]; exact Heap.get?_update_self _ hS rfl⟩
      cases e
      exact ih _ K'
    · obtain ⟨H', ys, cp, out, hcr, hcp, hle, hq⟩ := he
      obtain ⟨acc, c, rfl, hv⟩ := hcr
      obtain ⟨q1, q2⟩ := hcp _ (List.mem_singleton.mpr rfl)
      exact wpAny_pure (hend s1 acc c H' ys out q1 q2 hv hle hq)
end
section
variable {X : Cx} {pins : List (Addr × Obj)} {σ : L2.St} {k : Nat} {Q : List V → Hp → Prop} {A : Around} {s5 : Shared} {u : Value} {E : Value → Shared → Prop}
/-- what a made generator gives a consumer -/
theorem made_list (h : GxMade X pins σ k Q ydOn u s5) : ∃ (a : Addr) (g : Nat) (H1 : Hp) (sc : Shared) (fp : List Addr), u = .ref a ∧ Inv X pins σ H1 sc ∧ ExOk X pins fp ∧ a < s5.heap.objs.size ∧ s5.heap.IsGen a g ∧
    ∀ (A : Around) (S : Addr) (c : Nat) (s2 : Shared), Room k A.in1 → A.frames = some X.stack → s5.heap.objs.size ≤ S → (∀ b o, s5.heap.get? b = some o → s2.heap.get? b = some o) → s2.gens = s5.gens → s2.os = s5.os → s2.heap.get? S = some (lstObj #[] c) →
      Wk X.prog X.w X.stack fp H1 sc (cL S) Q ydOn A a g sizeLine s2 := by
  obtain ⟨a, g, c, H1, sc, fp, rfl, I1, hex, h1, h2, hgen, hgs, hos, hb, hl, hkp, wake⟩ := h
  refine ⟨a, g, H1, sc, fp, rfl, I1, hex, h2, hgen, fun A S cc s2 hr hfr hS hk hg ho hl2 => ⟨hgen.keeps hk, hl.keeps hk, .fresh c, by rw [hg]; exact hgs, rfl, ?_⟩⟩
  refine wake A.in1 (cL S) [(S, lstObj #[] cc)] (s2.setGen g .running) hr hfr (fun b hb => by rw [List.mem_singleton.mp hb]; exact hS) hk ⟨_, _, rfl, .nil⟩ (fun p hp => by rw [List.mem_singleton.mp hp]; exact hl2) (ho.trans hos) (allBare_setGen (by rw [hg]; exact hb) rfl)
/-- collect(g) -/
theorem gx_collect (hr : Room (k + 1) A) (hfr : A.frames = some X.stack) (h : GxMade X pins σ k Q ydOn u s5) {Q' : List Value → Shared → Prop}
    (hQ : ∀ s' acc H' ys, Inv X pins σ H' s' → Vals ys acc → ys.length ≤ sizeLine → Q ys H' → Q' acc s') : wpAny (model X.prog X.w) A (collect u) Q' E s5 := by
  obtain ⟨a, g, H1, sc, fp, rfl, I1, hex, h2, hgen, wk⟩ := made_list h
  have hlim : s5.heap.NoLimit := by
    obtain ⟨_, _, _, _, _, _, _, _, _, _, _, _, _, _, _, hl, _⟩ := h
    exact hl
  have hSa : s5.heap.objs.size ≠ a := Nat.ne_of_gt h2
  have hcl : cStatics < s5.heap.objs.size := let ⟨_, hn, _⟩ := hlim; hn.lt
  have hSc : s5.heap.objs.size ≠ cStatics := Nat.ne_of_gt hcl
  unfold collect
  refine wpAny_bind (wpAny_runValue (codeAny_builtin F.entry_proto_collect ?_))
  rw [Around.under_plainId F.plain_proto_collect _]
  show wpAny _ A.in1 (newList [] >>= fun l => again (.builtin "list.__iadd__" ⟨[l, .ref a], []⟩)) _ _ s5
  refine wpAny_bind (wpAny_newObj_type ?_)
  refine wpAny_pure ⟨plainId_quiet F.plain_list_iadd _, codeAny_builtin F.entry_list_iadd ?_⟩
  rw [Around.under_plainId F.plain_list_iadd _]
  have k1 : ∀ b o, s5.heap.get? b = some o → (s5.heap.push { cls := .type "list", data := .seq ([] : List Value).toArray }).get? b = some o := fun b o e => Heap.get?_push_of_some _ e
  have gty : ∀ {h : Heap}, (∀ b o, s5.heap.get? b = some o → h.get? b = some o) → h.IsGen a g := fun {h} q => hgen.keeps q
  show wpAny _ A.in1 (Builtin.List.listExtendWith (.ref s5.heap.objs.size) (.ref a) (.ref s5.heap.objs.size)) _ _ _
  unfold Builtin.List.listExtendWith
  refine wpAny_bind (wpAny_typeOf (Heap.IsGen.typeIs (s := { s5 with heap := _ }) (gty k1)) ?_)
  have h1 : Builtin.List.listSameRef (.ref s5.heap.objs.size) (.ref a) = false := by simp [Builtin.List.listSameRef, hSa]
  have h2 : (Value.type "generator" == Value.type "list") = false := by decide
  have h3 : (Value.type "generator" == Value.type "tuple") = false := by decide
  simp only [h1, h2, h3, Bool.or_false, Bool.false_eq_true, if_false]
  refine wpAny_bind (wpAny_pyIter_gen (s := { s5 with heap := _ }) (gty k1) ?_)
  refine wpAny_bind (wpAny_holding ?_)
  unfold Builtin.List.listLengthHint
  refine wpAny_bind (wpAny_specialOf (Heap.IsGen.typeIs (s := { s5 with heap := _ }) (gty k1)) F.gen_no_len ?_)
  show wpAny _ A.in1 (specialOf (Value.ref a) (Str.ofString "__length_hint__") >>= _) _ _ _
  refine wpAny_bind (wpAny_specialOf (Heap.IsGen.typeIs (s := { s5 with heap := _ }) (gty k1)) F.gen_no_hint ?_)
  refine wpAny_pure ?_
  show wpAny _ A.in1 (rule "list.extend.makes-room" >>= fun _ => Builtin.List.listTouch (.ref s5.heap.objs.size) >>= fun _ =>
    again (.builtin "list.extend.loop" ⟨[.ref s5.heap.objs.size, .ref a, .ref s5.heap.objs.size], []⟩)) _ _ _
  refine wpAny_bind (wpAny_rule ?_)
  have hS₁ : (s5.heap.push { cls := .type "list", data := .seq ([] : List Value).toArray }).get? s5.heap.objs.size = some { cls := .type "list", data := .seq ([] : List Value).toArray } := Heap.get?_push_size _ rfl
  refine wpAny_bind ?_
  show wpAny _ A.in1 (updateSeq s5.heap.objs.size (·.push .none) >>= fun _ => updateSeq s5.heap.objs.size (·.pop)) _ _ _
  refine wpAny_bind (wpAny_updateSeq hS₁ rfl ?_)
  have hS₂ := Heap.get?_update_self (Obj.mapSeq (·.push Value.none)) hS₁ rfl
  refine wpAny_updateSeq hS₂ rfl ?_
  have hS₃ := Heap.get?_update_self (Obj.mapSeq (·.pop)) hS₂ rfl
  have up : ∀ (h : Heap) (f : Obj → Obj), (∀ b o, s5.heap.get? b = some o → h.get? b = some o) → ∀ b o, s5.heap.get? b = some o → (h.update s5.heap.objs.size f).get? b = some o := fun h f q b o e =>
    (Heap.get?_update_other _ _ (Ne.symm (Nat.ne_of_lt (Heap.lt_size e)))).trans (q b o e)
  have k3 := up _ (Obj.mapSeq (·.pop)) (up _ (Obj.mapSeq (·.push Value.none)) k1)
  have r2 : Room k A.in1.in1 := ⟨hr.hd, by have := hr.dp; show A.depth + 3 * k + 5 < _; omega, by have := hr.un; show A.units + 1 + 1 + 16 * k + 200 < _; omega⟩
  refine wpAny_pure ⟨plainId_quiet F.plain_extend_loop _, gx_extend (A := A) (g := g) hr.hd (by have := hr.dp; omega) hSa hSc (fun s' acc c H' ys out q1 q2 q3 q4 q5 => ?_) sizeLine _ (wk A.in1 s5.heap.objs.size _ _ r2 hfr (Nat.le_refl _) k3 rfl rfl hS₃)⟩
  show wpAny _ A (load s5.heap.objs.size >>= _) _ _ s'
  refine wpAny_bind (wpAny_load q1 ?_)
  exact wpAny_pure (hQ s' acc.toList H' ys (I1.call' (ch := fp) out.os out.un out.hok out.bare hex) q3 q4 q5)
end
end Kk

set_option maxHeartbeats 1000000
namespace Kk
open PySem PySem.Spec PyProof.Rows L2 GenW
section
variable {X : Cx} {c P : Addr} {tg elt iter : Expr} {ifs : List Expr} {p pos gp : Pos} {scope : Scope} {wi : TI} {g : TG} {tt : TT} {te : TE} {k : Nat} {N' : List Str} {nt : Nat} {js : List Nat}
/-- what a generator expression asks -/
structure GxE (X : Cx) (k : Nat) (c P : Addr) (tg elt iter : Expr) (ifs : List Expr) (scope : Scope) (N' : List Str) (nt : Nat) (js : List Nat) (wi : TI) (g : TG) (tt : TT) (te : TE) : Prop where
  tab : GxR.TabB X.base X.mg c P
  code : X.env.code = .ref c
  gs : GxS X.env.scope scope
  gn : GxN X.N X.env.scope scope N' nt js
  it : PI X tg iter wi
  pg : ∀ (A : Around) (C : Addr) (cv : Value) (s : Shared) (H : Hp) (fp : List Addr) (pn : List (Addr × Obj)), Room k (A.deeper (geOf X scope C cv)) → PG (gxC X A (geOf X scope C cv) N' s H fp pn) tg g
  pt : ∀ (A : Around) (C : Addr) (cv : Value) (s : Shared) (H : Hp) (fp : List Addr) (pn : List (Addr × Obj)), Room k (A.deeper (geOf X scope C cv)) → PTs (gxC X A (geOf X scope C cv) N' s H fp pn) ifs tt
  pe : ∀ (A : Around) (C : Addr) (cv : Value) (s : Shared) (H : Hp) (fp : List Addr) (pn : List (Addr × Obj)), Room k (A.deeper (geOf X scope C cv)) → PE (gxC X A (geOf X scope C cv) N' s H fp pn) elt te
  fold : ∀ v, genFold iter X.env v = pure v
def tAllG (P : Addr) (wi : TI) (g : TG) (tt : TT) (te : TE) (nt : Nat) (js : List Nat) : TE := fun σ H Q => tGx P wi g tt te nt js σ H (fun _ H' => Q (.bl true) H') (ydAll fun H' => Q (.bl false) H')
def tAnyG (P : Addr) (wi : TI) (g : TG) (tt : TT) (te : TE) (nt : Nat) (js : List Nat) : TE := fun σ H Q => tGx P wi g tt te nt js σ H (fun _ H' => Q (.bl false) H') (ydAny fun H' => Q (.bl true) H')
def tTupG (P : Addr) (wi : TI) (g : TG) (tt : TT) (te : TE) (nt : Nat) (js : List Nat) : TE := fun σ H Q => tGx P wi g tt te nt js σ H (fun ys H' => ∀ T, H' T = none → Q (.ref T) (upd H' T (.tup ys))) ydOn
theorem pe_allG (E : GxE X k c P tg elt iter ifs scope N' nt js wi g tt te) (room : Room (k + 2) X.A) (hg : Gl X "all") (hm : X.mg "all" = none)
    (he : starEach [.GeneratorExp elt [⟨tg, iter, ifs, 0⟩] scope gp] X.env = (false, eval (.GeneratorExp elt [⟨tg, iter, ifs, 0⟩] scope gp) X.env) :: starEach [] X.env := by rfl) :
    PE X (.Call (.Name "all" p) [.GeneratorExp elt [⟨tg, iter, ifs, 0⟩] scope gp] [] pos) (tAllG P wi g tt te nt js) := by
  refine ⟨fun pins s σ H Q I want => ?_⟩
  have hb : bootBuiltins "all" = some (.builtin "all") := by decide +kernel
  refine wpAny_Call_Name_kw (ld_blt I hg hm hb ?_)
  refine PyProof.Rows.callWith_builtin1 ?_ he (by rfl)
  rw [he]
  show wpAny _ _ (spliced ((false, eval (.GeneratorExp elt [⟨tg, iter, ifs, 0⟩] scope gp) X.env) :: backTo pos (starEach [] X.env))) _ _ s
  refine Calls.spliced_cons (thn (gx_make (room.mono (by omega)) E.tab E.code E.gs E.gn E.it E.pg E.pt E.pe E.fold I want) fun u s5 hG => ?_)
  refine Calls.spliced_nil ?_
  obtain ⟨a, gi, cd, H1, sc, fp, rfl, I1, hex, h1, h2, hgen, hgs, hos, hba, hl, hkp, wake⟩ := hG
  refine call_function_tree F.kind_all F.plain_all F.entry_all (F.args_all1 _) ?_
  unfold Builtin.«all»
  refine wpAny_bind (m := oneArg "all" _) (wpAny_pure ?_)
  refine wpAny_bind (wpAny_pyIter_gen hgen ?_)
  have r2 : Room (k + 1) X.A.in1.in1 := ⟨room.hd, by have := room.dp; show X.A.depth + 3 * (k + 1) + 5 < _; omega, by have := room.un; show X.A.units + 1 + 1 + 16 * (k + 1) + 200 < _; omega⟩
  have K : Wk X.prog X.w X.stack fp H1 sc c0 (fun _ => fun H' => Q (.bl true) H') (ydAll fun H' => Q (.bl false) H') X.A.in1 a gi sizeLine s5 := ⟨hgen, hl, .fresh cd, hgs, rfl,
    wake X.A.in1.in1 c0 [] (s5.setGen gi .running) r2 I1.ok.frames (fun b hb => by cases hb) (fun b o e => e) rfl (fun q hq => by cases hq) hos (allBare_setGen hba rfl)⟩
  refine wpAny_pure ⟨plainId_quiet F.plain_all_loop _, gx_all (A := X.A) room.hd (by have := room.dp; omega) (fun s' H' out hq => ?_) (fun s' H' out hq => ?_) sizeLine s5 K⟩
  · exact ⟨.bl true, H', I1.call' (ch := fp) out.os out.un out.hok out.bare hex, rfl, hq⟩
  · exact ⟨.bl false, H', I1.call' (ch := fp) out.os out.un out.hok out.bare hex, rfl, hq⟩
theorem pe_anyG (E : GxE X k c P tg elt iter ifs scope N' nt js wi g tt te) (room : Room (k + 2) X.A) (hg : Gl X "any") (hm : X.mg "any" = none)
    (he : starEach [.GeneratorExp elt [⟨tg, iter, ifs, 0⟩] scope gp] X.env = (false, eval (.GeneratorExp elt [⟨tg, iter, ifs, 0⟩] scope gp) X.env) :: starEach [] X.env := by rfl) :
    PE X (.Call (.Name "any" p) [.GeneratorExp elt [⟨tg, iter, ifs, 0⟩] scope gp] [] pos) (tAnyG P wi g tt te nt js) := by
  refine ⟨fun pins s σ H Q I want => ?_⟩
  have hb : bootBuiltins "any" = some (.builtin "any") := by decide +kernel
  refine wpAny_Call_Name_kw (ld_blt I hg hm hb ?_)
  refine PyProof.Rows.callWith_builtin1 ?_ he (by rfl)
  rw [he]
  show wpAny _ _ (spliced ((false, eval (.GeneratorExp elt [⟨tg, iter, ifs, 0⟩] scope gp) X.env) :: backTo pos (starEach [] X.env))) _ _ s
  refine Calls.spliced_cons (thn (gx_make (room.mono (by omega)) E.tab E.code E.gs E.gn E.it E.pg E.pt E.pe E.fold I want) fun u s5 hG => ?_)
  refine Calls.spliced_nil ?_
  obtain ⟨a, gi, cd, H1, sc, fp, rfl, I1, hex, h1, h2, hgen, hgs, hos, hba, hl, hkp, wake⟩ := hG
  refine call_function_tree F.kind_any F.plain_any F.entry_any (F.args_any1 _) ?_
  unfold Builtin.«any»
  refine wpAny_bind (m := oneArg "any" _) (wpAny_pure ?_)
  refine wpAny_bind (wpAny_pyIter_gen hgen ?_)
  have r2 : Room (k + 1) X.A.in1.in1 := ⟨room.hd, by have := room.dp; show X.A.depth + 3 * (k + 1) + 5 < _; omega, by have := room.un; show X.A.units + 1 + 1 + 16 * (k + 1) + 200 < _; omega⟩
  have K : Wk X.prog X.w X.stack fp H1 sc c0 (fun _ => fun H' => Q (.bl false) H') (ydAny fun H' => Q (.bl true) H') X.A.in1 a gi sizeLine s5 := ⟨hgen, hl, .fresh cd, hgs, rfl,
    wake X.A.in1.in1 c0 [] (s5.setGen gi .running) r2 I1.ok.frames (fun b hb => by cases hb) (fun b o e => e) rfl (fun q hq => by cases hq) hos (allBare_setGen hba rfl)⟩
  refine wpAny_pure ⟨plainId_quiet F.plain_any_loop _, gx_any (A := X.A) room.hd (by have := room.dp; omega) (fun s' H' out hq => ?_) (fun s' H' out hq => ?_) sizeLine s5 K⟩
  · exact ⟨.bl true, H', I1.call' (ch := fp) out.os out.un out.hok out.bare hex, rfl, hq⟩
  · exact ⟨.bl false, H', I1.call' (ch := fp) out.os out.un out.hok out.bare hex, rfl, hq⟩
/-- tuple(g) of a made generator -/
theorem call_tupleG {pins : List (Addr × Obj)} {σ : L2.St} {s5 : Shared} {u : Value} {A : Around} {Q : List V → Hp → Prop} {Q' : Value → Shared → Prop} {E : Value → Shared → Prop} (hr : Room (k + 2) A) (hfr : A.frames = some X.stack) (h : GxMade X pins σ k Q ydOn u s5)
    (hQ : ∀ s' acc H' ys, Inv X pins σ H' s' → Vals ys acc → ys.length ≤ sizeLine → Q ys H' → Q' (.ref s'.heap.objs.size) { s' with heap := s'.heap.push { cls := .type "tuple", data := .seq acc.toArray } }) :
    wpAny (model X.prog X.w) A (call (.type "tuple") [u]) Q' E s5 := by
  obtain ⟨a, g0, hu, hgen⟩ : ∃ (a : Addr) (g : Nat), u = .ref a ∧ s5.heap.IsGen a g := by
    obtain ⟨a, g, _, _, _, _, e, _, _, _, _, q, _⟩ := h
    exact ⟨a, g, e, q⟩
  subst hu
  refine callType_codes (Q₁ := fun obj s₁ => s₁.TypeIs obj "tuple" ∧ Q' obj s₁) F.called_tuple (F.typeCall_tuple_1 _) F.entry_object_init ?_ fun obj s₁ h₁ => ?_
  · refine codeAny_of_tree ?_
    show wpAny _ A.in1.in1 (do checkBuiltinCall "tuple.__new__" ⟨[.type "tuple", .ref a], []⟩; again (.builtin "tuple.__new__" ⟨[.type "tuple", .ref a], []⟩)) _ _ s5
    refine wpAny_bind (wpAny_of_eq (F.newCall_tuple_1 _) (wpAny_pure ⟨plainId_quiet F.plain_tuple_new _, codeAny_builtin F.entry_tuple_new ?_⟩))
    rw [Around.under_plainId F.plain_tuple_new _]
    have hsub := sub_tuple_self
    have hinit := init_tuple_lookup
    have hmh := madeHere_tuple
    have hTI : s5.TypeIs (.ref a) "generator" := hgen.typeIs
    have r2 : Room (k + 1) A.in1.in1 := ⟨hr.hd, by have := hr.dp; show A.depth + 3 * (k + 1) + 5 < _; omega, by have := hr.un; show A.units + 1 + 1 + 16 * (k + 1) + 200 < _; omega⟩
    have q1 : ∀ {E' : Value → Shared → Prop} {Q2 : List Value → Shared → Prop}, (∀ s' acc H' ys, Inv X pins σ H' s' → Vals ys acc → ys.length ≤ sizeLine → Q ys H' → Q2 acc s') → wpAny (model X.prog X.w) A.in1.in1 (collect (.ref a)) Q2 E' s5 :=
      fun {E' Q2} hq => gx_collect (A := A.in1.in1) r2 hfr h hq
    wp_walk using wpAny_typeOf hTI, q1
    intro s' acc H' ys I' hv hle hq
    show wpAny _ _ (Builtin.Tuple.tupleExact acc.toArray >>= fun v => ret v) _ _ _
    unfold Builtin.Tuple.tupleExact
    refine wpAny_bind (wpAny_newObj_type ?_ (by show acc.toArray.size ≤ sizeLine; rw [List.size_toArray, ← hv.length]; exact hle))
    exact wpAny_pure ⟨⟨_, Heap.get?_push_size _ rfl, rfl⟩, hQ s' acc H' ys I' hv hle hq⟩
  · exact ⟨h₁.1, F.args_object_init_2 obj _, object_init_meets F.called_tuple.init.lookup F.called_tuple.made (by decide) X.prog X.w A.in1 _ s₁ ⟨h₁.1, rfl, h₁.2⟩⟩
theorem pe_tupG (E : GxE X k c P tg elt iter ifs scope N' nt js wi g tt te) (room : Room (k + 3) X.A) (hg : Gl X "tuple") (hm : X.mg "tuple" = none)
    (he : starEach [.GeneratorExp elt [⟨tg, iter, ifs, 0⟩] scope gp] X.env = (false, eval (.GeneratorExp elt [⟨tg, iter, ifs, 0⟩] scope gp) X.env) :: starEach [] X.env := by rfl) :
    PE X (.Call (.Name "tuple" p) [.GeneratorExp elt [⟨tg, iter, ifs, 0⟩] scope gp] [] pos) (tTupG P wi g tt te nt js) := by
  refine ⟨fun pins s σ H Q I want => ?_⟩
  have hb : bootBuiltins "tuple" = some (.type "tuple") := by decide +kernel
  refine wpAny_Call_Name_kw (ld_blt I hg hm hb ?_)
  refine PyProof.Rows.callWith_type1 ?_ he rfl
  rw [he]
  show wpAny _ _ (spliced ((false, eval (.GeneratorExp elt [⟨tg, iter, ifs, 0⟩] scope gp) X.env) :: backTo pos (starEach [] X.env))) _ _ s
  refine Calls.spliced_cons (thn (gx_make (room.mono (by omega)) E.tab E.code E.gs E.gn E.it E.pg E.pt E.pe E.fold I want) fun u s5 hG => ?_)
  refine Calls.spliced_nil ?_
  refine call_tupleG (X := X) (k := k + 1) (room.mono (by omega)) I.ok.frames hG fun s' acc H' ys I' hv hle hq => ?_
  refine ⟨.ref s'.heap.objs.size, upd H' s'.heap.objs.size (.tup ys), I'.laid (t' := s'.toks) (fun b o e => Heap.get?_push_of_some _ e) (Nat.le_refl _) ⟨hle, acc, hv, ?_⟩, rfl, hq _ (I'.hok.fresh (Nat.le_refl _))⟩
  exact ⟨_, Heap.get?_push_size _ rfl, rfl, _, rfl⟩
end
end Kk

set_option maxHeartbeats 4000000
namespace Kk
open PySem PySem.Spec PyProof.Rows L2
/-! sets of texts -/
def kS (e : Int × Value) : Str := match e.2 with | .str x _ => x | _ => Str.empty
def GS (w : World) (e : Int × Value) : Prop := ∃ x tk, e.2 = Value.str x tk ∧ e.1 = hashStr w x
/-- the set at a: the texts of L -/
def SR (w : World) (h : Heap) (a : Addr) (L : List Str) (n : Nat) : Prop :=
  ∃ o es ep t, h.get? a = some o ∧ o.ExactSet ∧ o.data = .set es ep t ∧ (∀ e ∈ es.toList, GS w e) ∧ (es.toList.map kS).Nodup ∧ (∀ k, k ∈ L ↔ k ∈ es.toList.map kS) ∧
    es.size < scanBound ∧ t.fits es.size = true ∧ es.size = n ∧ Ris t.place.toList ∧ (w.params.followText "set-order" = true ∨ t.led = true)
theorem SR.at {w : World} {h h' : Heap} {a : Addr} {L : List Str} {n : Nat} (R : SR w h a L n) (k : ∀ o, h.get? a = some o → h'.get? a = some o) : SR w h' a L n := by
  obtain ⟨o, es, ep, t, ho, rest⟩ := R
  exact ⟨o, es, ep, t, k o ho, rest⟩
theorem sub_len : ∀ (l B : List Str), l.Nodup → (∀ x ∈ l, x ∈ B) → l.length ≤ B.length
  | [], _, _, _ => Nat.zero_le _
  | x :: l, B, nd, h => by
    obtain ⟨h1, h2⟩ := List.nodup_cons.mp nd
    have hx := h x (List.mem_cons_self ..)
    have ih := sub_len l (B.erase x) h2 fun y hy => by
      have ne : y ≠ x := fun z => h1 (z ▸ hy)
      exact (List.mem_erase_of_ne ne).mpr (h y (List.mem_cons_of_mem _ hy))
    rw [List.length_erase_of_mem hx] at ih
    have := List.length_pos_of_mem hx
    rw [List.length_cons]; omega
section
variable {P : Program} {w : World} {A : Around} {E : Value → Shared → Prop} {s : Shared} {a : Addr} {L : List Str} {n : Nat}
theorem gs_is {e : Int × Value} (g : GS w e) (k : Str) : (PySem.strKind P w).is k e.2 = true ↔ kS e = k := by
  obtain ⟨x, tk, h1, _⟩ := g
  have e1 : kS e = x := by unfold kS; rw [h1]
  rw [e1, h1]
  constructor
  · intro h
    obtain ⟨t, q⟩ := Value.isStrOf_shape (x := k) (v := .str x tk) h
    cases q; rfl
  · intro h; subst h; exact strKind_is P w x tk
theorem gs_elems {l : List (Int × Value)} (g : ∀ e ∈ l, GS w e) : ElemsOf (PySem.strKind P w) l := fun e he => by
  obtain ⟨x, tk, h1, h2⟩ := g e he
  exact ⟨⟨x, by rw [h1]; exact strKind_is P w x tk, h2⟩, by rw [h1]; rfl⟩
theorem gs_mem {l : List (Int × Value)} (g : ∀ e ∈ l, GS w e) (k : Str) : k ∈ l.map kS ↔ ∃ e ∈ l, (PySem.strKind P w).is k e.2 = true := by
  constructor
  · intro h
    obtain ⟨e, he, q⟩ := List.mem_map.mp h
    exact ⟨e, he, (gs_is (g e he) k).mpr q⟩
  · rintro ⟨e, he, q⟩
    exact List.mem_map.mpr ⟨e, he, (gs_is (g e he) k).mp q⟩
theorem sr_tail {gw : Bool → Sem Unit} (hgw : ∀ (b : Bool) (z : Shared) (Q' : Unit → Shared → Prop), Q' () z → wpAny (model P w) A (gw b) Q' E z)
    {o : Obj} {es : Array (Int × Value)} {ep : Nat} {t : SetTable} (ho : s.heap.get? a = some o) (hex : o.ExactSet) (hd : o.data = .set es ep t)
    {fs : Array (Int × Value)} {u : SetTable} {L' : List Str} (gf : ∀ e ∈ fs.toList, GS w e) (nf : (fs.toList.map kS).Nodup) (mf : ∀ k, k ∈ L' ↔ k ∈ fs.toList.map kS)
    (bf : fs.size < scanBound) (ff : u.fits fs.size = true) (rf : Ris u.place.toList) (lf : w.params.followText "set-order" = true ∨ u.led = true) {was : Bool} {R : Option Bool → Shared → Prop}
    (fin : ∀ h', Heap.SameBut a s.heap h' → SR w h' a L' fs.size → R (some true) { s with heap := h' }) :
    wpAny (model P w) A (do
        storeSet a fs u
        if (!was && u.tooFull) = true then do
            gw (relayAll u fs (SetTable.grown fs.size)).2.2
            storeSet a (relayAll u fs (SetTable.grown fs.size)).1 (relayAll u fs (SetTable.grown fs.size)).2.1
            pure (some true)
          else pure (some true)) R E s := by
  refine wpAny_bind (wpAny_storeSet_of ho hd ?_ (fits_of_scanBound bf))
  have at1 := store_at (es' := fs) (t' := u) ho hd
  have same1 := Heap.SameBut.update s.heap a (Obj.putSet fs u)
  split
  · have pm := relayAll_perm u fs (SetTable.grown fs.size)
    have f3 := relayAll_fits u fs (SetTable.grown fs.size)
    have r3 := relayAll_ris u fs (SetTable.grown fs.size)
    have l3 := relayAll_led u fs (SetTable.grown fs.size)
    generalize relayAll u fs (SetTable.grown fs.size) = zz at pm f3 r3 l3 ⊢
    obtain ⟨gs, v, gave⟩ := zz
    dsimp only at pm f3 r3 l3 ⊢
    have sz : gs.size = fs.size := by rw [← Array.length_toList, pm.length_eq, Array.length_toList]
    have b2 : gs.size < scanBound := by rw [sz]; exact bf
    refine wpAny_bind (hgw _ _ _ ?_)
    refine wpAny_bind (wpAny_storeSet_of at1 rfl ?_ (fits_of_scanBound b2))
    have at2 := store_at (es' := gs) (t' := v) at1 rfl
    refine wpAny_pure (fin _ (same1.trans (Heap.SameBut.update _ a _)) ?_)
    exact ⟨_, gs, _, v, at2, hex, rfl, fun e he => gf e (pm.mem_iff.mp he), (pm.map kS).nodup_iff.mpr nf, fun k => (mf k).trans (pm.map kS).mem_iff.symm, b2, f3, sz, r3, lf.imp id fun z => by rw [l3]; exact z⟩
  · exact wpAny_pure (fin _ same1 ⟨_, fs, _, u, at1, hex, rfl, gf, nf, mf, bf, ff, rfl, rf, lf⟩)
theorem sr_add {k : Str} {tk : Tok} {Q : Bool → Shared → Prop} (R : SR w s.heap a L n) (room : n + 1 < scanBound)
    (fin : ∀ (b : Bool) (m : Nat) h', Heap.SameBut a s.heap h' → SR w h' a (L ++ [k]) m → Q b { s with heap := h' }) :
    wpAny (model P w) A (setAddHashed a (.str k tk) ((PySem.strKind P w).hash k)) Q E s := by
  obtain ⟨o, es, ep, t, ho, hex, hd, g, nd, hm, hb, hf, hn, hr, hl⟩ := R
  have isk : (PySem.strKind P w).is k (.str k tk) = true := strKind_is P w k tk
  have scn : (Value.str k tk).scannable = true := rfl
  have els : ElemsOf (PySem.strKind P w) es.toList := gs_elems g
  unfold setAddHashed setAddHashedIn
  refine wpAny_holding (wpAny_bind (wpAny_setState_of ho hd hf ?_))
  dsimp only
  rw [byScan_of scn hb els]
  simp only [↓reduceIte]
  unfold setAddByScan
  refine wpAny_bind ?_
  refine wpAny_bind (wpAny_rule ?_)
  refine wpAny_bind (wpAny_setScan_of isk ho hd hf els ?_)
  cases look : List.findIdx? (fun e => (PySem.strKind P w).is k e.2) es.toList with
  | some j =>
    dsimp only
    obtain ⟨hj, pj, _⟩ := List.findIdx?_eq_some_iff_getElem.mp look
    have inS : k ∈ es.toList.map kS := (gs_mem (P := P) (w := w) g k).2 ⟨es.toList[j], List.getElem_mem hj, pj⟩
    refine wpAny_pure (wpAny_pure ?_)
    refine fin _ n s.heap (Heap.SameBut.refl a s.heap) ⟨o, es, ep, t, ho, hex, hd, g, nd, fun i => ?_, hb, hf, hn, hr, hl⟩
    rw [List.mem_append, hm i, List.mem_singleton]
    exact ⟨fun z => z.elim id fun e => e ▸ inS, .inl⟩
  | none =>
    dsimp only
    have new : k ∉ es.toList.map kS := fun z => by
      obtain ⟨e, he, q⟩ := (gs_mem (P := P) (w := w) g k).1 z
      have c := List.findIdx?_eq_none_iff.mp look e he
      rw [q] at c; cases c
    have gave : ∀ (b : Bool) {z : Shared} {Q' : Unit → Shared → Prop}, Q' () z → wpAny (model P w) A (match b with | true => rule "set.scan.the-table-gave-way" | false => pure ()) Q' E z :=
      fun b z Q' q => by cases b <;> first | exact wpAny_pure q | exact wpAny_rule q
    have pm := layNew_perm t es ((PySem.strKind P w).hash k) (.str k tk)
    have f1 := layNew_fits t es ((PySem.strKind P w).hash k) (.str k tk)
    have r1 := layNew_ris t es ((PySem.strKind P w).hash k) (.str k tk) hr
    have l1 := layNew_led t es ((PySem.strKind P w).hash k) (.str k tk)
    generalize layNew t es ((PySem.strKind P w).hash k) (.str k tk) = zz at pm f1 r1 l1 ⊢
    obtain ⟨fs, u, was, gv⟩ := zz
    dsimp only at pm f1 r1 l1 ⊢
    rw [Array.toList_push] at pm
    have pc : fs.toList.Perm (((PySem.strKind P w).hash k, Value.str k tk) :: es.toList) := pm.trans (List.perm_append_singleton _ _)
    have pk : (fs.toList.map kS).Perm (k :: es.toList.map kS) := pc.map kS
    have gf : ∀ e ∈ fs.toList, GS w e := fun e he => by
      rcases List.mem_cons.mp (pc.mem_iff.mp he) with z | z
      · rw [z]; exact ⟨k, tk, rfl, rfl⟩
      · exact g e z
    have nf : (fs.toList.map kS).Nodup := pk.nodup_iff.mpr (List.nodup_cons.mpr ⟨new, nd⟩)
    have mf : ∀ i, i ∈ L ++ [k] ↔ i ∈ fs.toList.map kS := fun i => by
      rw [List.mem_append, hm i, List.mem_singleton, pk.mem_iff, List.mem_cons]
      exact Or.comm
    have sz : fs.size = n + 1 := by rw [← Array.length_toList, pc.length_eq, List.length_cons, Array.length_toList, hn]
    have b1 : fs.size < scanBound := by rw [sz]; exact room
    have led : w.params.followText "set-order" = true ∨ u.led = true := hl.imp id fun z => by rw [l1]; exact z
    refine wpAny_bind (gave _ ?_)
    split
    · refine wpAny_bind ?_
      rw [hashByValue_scannable 8 scn]
      refine wpAny_pure ?_
      refine sr_tail ?_ ho hex hd gf nf mf b1 ?_ ?_ ?_ ?_
      · intro b z Q' q; cases b <;> first | exact wpAny_pure q | exact wpAny_rule q
      · first | (split <;> first | exact f1 | exact SetTable.fits_plain_off f1) | exact f1
      · first | (split <;> exact r1) | exact r1
      · first | (split <;> exact led) | exact led
      · intro h' sb r; dsimp only; exact wpAny_pure (fin _ _ h' sb r)
    · refine wpAny_bind (wpAny_pure ?_)
      simp only [↓reduceIte]
      refine sr_tail ?_ ho hex hd gf nf mf b1 f1 r1 led ?_
      · intro b z Q' q; cases b <;> first | exact wpAny_pure q | exact wpAny_rule q
      · intro h' sb r; dsimp only; exact wpAny_pure (fin _ _ h' sb r)
theorem sr_room {B : List Str} (R : SR w s.heap a L n) (hB : ∀ x ∈ L, x ∈ B) : n ≤ B.length := by
  obtain ⟨o, es, ep, t, ho, hex, hd, g, nd, hm, hb, hf, hn, hr, hl⟩ := R
  have := sub_len _ B nd fun x hx => hB x ((hm x).2 hx)
  rw [List.length_map, Array.length_toList, hn] at this
  exact this
end
section
variable {prog : Program} {w : World} {A : Around} {R : Result → Shared → Prop} {I : Addr} {fp wr : List Addr} {G : Array GenState → Array GenState → Prop} {m : Nat} {P : Nat → Value → Prop} {St : Nat → Shared → Prop}
theorem sr_loop (W : WalksS prog w A.in1 I fp wr G m P St) (S : Addr) (nS : S ∉ fp) (xs : List Str) (sz : xs.length = m) {B : List Str} (hB : ∀ x ∈ xs, x ∈ B) (hB64 : B.length < 64)
    (val : ∀ i v, P i v → ∃ x t, xs[i]? = some x ∧ v = .str x t) :
    ∀ (k i n : Nat) (s : Shared), m - i = k → i ≤ m → St i s → SR w s.heap S (xs.take i) n →
      (∀ s' n', Moved (S :: wr) G s s' → SR w s'.heap S xs n' → R (.ok (.ret .none)) s') →
      codeAny (model prog w) A (.builtin "set.update.loop" ⟨[.ref S, .ref I], []⟩) R s := by
  have nSw : S ∉ wr := fun h => nS (W.sub _ h)
  have sub : ∀ b ∈ wr, b ∈ S :: wr := fun b hb => List.mem_cons_of_mem _ hb
  intro k
  induction k with
  | zero =>
    intro i n s hk hi st hS hR
    obtain rfl : i = m := by omega
    refine codeAny_builtin PyProof.Rows.F.entry_set_update_loop ?_
    rw [Around.under_plainId PyProof.Rows.F.plain_set_update_loop _]
    show wpAny _ A.in1 (pyNext (.ref I) >>= _) _ _ s
    refine wpAny_bind (W.done s _ _ st fun s' hm => ?_)
    show wpAny _ A.in1 (ret Value.none) _ _ s'
    refine wpAny_pure (hR s' n (hm.mono sub) ?_)
    rw [← sz, List.take_length] at hS
    exact hS.at fun o ho => hm.heap S _ nSw ho
  | succ k ih =>
    intro i n s hk hi st hS hR
    have lt : i < m := by omega
    refine codeAny_builtin PyProof.Rows.F.entry_set_update_loop ?_
    rw [Around.under_plainId PyProof.Rows.F.plain_set_update_loop _]
    show wpAny _ A.in1 (pyNext (.ref I) >>= _) _ _ s
    refine wpAny_bind (W.item i s _ _ lt st fun v s' hP st' hm => ?_)
    obtain ⟨x, t, hx, rfl⟩ := val i v hP
    have hS' : SR w s'.heap S (xs.take i) n := hS.at fun o ho => hm.heap S _ nSw ho
    show wpAny _ A.in1 (holding [Value.str x t] (setAdd S (.str x t)) >>= _) _ _ s'
    refine wpAny_bind (wpAny_holding ?_)
    unfold setAdd
    refine wpAny_holding ?_
    refine wpAny_bind ((PySem.strKind prog w).pyHash (k := x) (strKind_is _ _ _ _) ?_)
    have room : n + 1 < scanBound := by
      have := sr_room hS' (B := B) fun y hy => hB y (List.mem_of_mem_take hy)
      unfold scanBound; omega
    refine sr_add (s := { s' with toks := s'.toks + 1 }) hS' room fun b n2 h' sb r => ?_
    have tk : xs.take (i + 1) = xs.take i ++ [x] := by rw [List.take_add_one, hx]; rfl
    rw [← tk] at r
    refine wpAny_pure ⟨plainId_quiet PyProof.Rows.F.plain_set_update_loop _, ih (i + 1) n2 _ (by omega) lt (W.frame _ s' _ _ st' (Nat.le_succ _) fun b hb o e => ?_) r fun s'' n3 hm'' hS'' => ?_⟩
    · rw [sb.2 b (fun z : b = S => nS (by rw [← z]; exact hb))]; exact e
    · refine hR s'' n3 (Moved.trans W.gtrans ((hm.mono sub).then_heap (Nat.le_succ _) fun b o hb e => ?_) hm'') hS''
      rw [sb.2 b (fun z : b = S => hb (by rw [z]; exact List.mem_cons_self))]; exact e
end
end Kk

set_option maxHeartbeats 4000000
namespace Kk
open PySem PySem.Spec PyProof.Rows L2
abbrev newSet (w : World) : Obj := { cls := .type "set", dict := none, data := .set #[] 0 (.fresh 0 0 (!w.params.followText "set-order")) }
theorem sr_fresh {h : Heap} (w : World) : SR w (h.push { cls := .type "set", dict := none, data := .set #[] 0 (.fresh 0 0 (!w.params.followText "set-order")) }) h.objs.size [] 0 :=
  ⟨_, #[], 0, _, Heap.get?_push_size _ rfl, ⟨rfl, rfl, rfl⟩, rfl, (fun e he => by simp at he), (by simp), (fun k => by simp), (by decide), (by rfl), rfl, List.Pairwise.nil, by
    show _ ∨ (!w.params.followText "set-order") = true
    cases w.params.followText "set-order"
    · exact .inr rfl
    · exact .inl rfl⟩
section
variable {P : Program} {w : World} {A : Around} {E : Value → Shared → Prop} {s : Shared} {a : Addr} {L : List Str} {n : Nat}
/-- set(xs), xs a list of texts -/
theorem set_of_strs {l : Addr} {items : Array Value} {xs B : List Str} {Q : Value → Shared → Prop} (hh : A.handled = none) (hl : s.heap.IsList l items) (sz0 : xs.length = items.size)
    (val : ∀ (i : Nat) (v : Value), items[i]? = some v → ∃ x t, xs[i]? = some x ∧ v = .str x t) (hB : ∀ x ∈ xs, x ∈ B) (hB64 : B.length < 64)
    (fin : ∀ (h' : Heap) (tk n : Nat), SR w h' s.heap.objs.size xs n → (∀ b o, s.heap.get? b = some o → h'.get? b = some o) → Q (.ref s.heap.objs.size) { s with heap := h', toks := tk }) :
    wpAny (model P w) A (call (.type "set") [.ref l]) Q E s := by
  obtain ⟨c, tl, mro⟩ := PySem.F.called_set.mro
  have made := PySem.F.called_set.made
  have issub := PySem.F.called_set.sub
  refine wpAny_call (codeAny_of_tree ?_)
  show wpAny _ _ (callAny (.type "set") _) _ _ _
  refine wpAny_pure ⟨Code.quiet_builtin _ (by decide +kernel), codeAny_builtin PySem.F.entry_type_call ?_⟩
  rw [Around.under_plain (weight_type_call_type "set" [.ref l] []) rfl]
  have q1 := PySem.F.called_set.notType
  have q2 := PySem.F.called_set.canCreate
  have q3 := PySem.F.typeCall_set_1 (.ref l)
  repeat (any_goals (first | assumption | wp_step))
  refine codeAny_mono (code_set_led1 (.ref l) (E := E) (Q₁ := fun v z => v = .ref s.heap.objs.size ∧ z = { s with heap := s.heap.push { cls := .type "set", dict := none, data := .set #[] 0 (.fresh 0 0 (!w.params.followText "set-order")) } }) ⟨rfl, rfl⟩) fun r z hr => ?_
  cases r with
  | error e => exact hr
  | ok fl =>
    cases fl with
    | ret v =>
      obtain ⟨rfl, rfl⟩ := hr
      have atS : (s.heap.push (newSet w)).get? s.heap.objs.size = some (newSet w) := Heap.get?_push_size _ rfl
      have isS : Shared.TypeIs { s with heap := s.heap.push (newSet w) } (.ref s.heap.objs.size) "set" := ⟨_, atS, rfl⟩
      have ini := PySem.F.called_set.init.lookup
      have bnd := PySem.F.called_set.init.bind (.ref s.heap.objs.size)
      repeat (any_goals (first | assumption | wp_step))
      refine codeAny_mono (codeAny_call_builtin (R := wants (fun r z2 => r = .none ∧ ∃ h' tk n, z2 = { s with heap := h', toks := tk } ∧ SR w h' s.heap.objs.size xs n ∧ (∀ b o, s.heap.get? b = some o → h'.get? b = some o)) E)
        PySem.F.called_set.init.plain PySem.F.entry_set_init (check_set_init_1 isS ?_)) fun r2 z2 hr2 => ?_
      · obtain ⟨ol, hol, cl, nl, dl⟩ := hl
        obtain ⟨oc, od, odt, osl⟩ := ol
        simp only at cl dl
        subst cl; subst dl
        have hol2 : (s.heap.push (newSet w)).get? l = some { cls := .type "list", dict := od, data := .seq items nl, slots := osl } := Heap.get?_push_of_some _ hol
        have s1 := PySem.F.sub_list_set
        have s2 := PySem.F.sub_list_frozenset
        have s3 : (Value.type "list" == Value.type "dict") = false := by decide
        have isL : (s.heap.push (newSet w)).IsList l items := ⟨_, hol2, rfl, nl, rfl⟩
        unfold Builtin.«set.__init__» noKeywords Builtin.Frozenset.updateFrom
        generalize hold : pyIter = PI
        wp_walk
        subst hold
        refine wpAny_pyIter_list isL ?_
        refine wpAny_bind (wpAny_runValue ?_)
        have lt1 : l < s.heap.objs.size := Heap.lt_size hol
        have hh3 : A.in1.in1.in1.handled = none := by simp [hh]
        have neI : l ≠ (s.heap.push (newSet w)).objs.size := by rw [Heap.size_push]; exact Nat.ne_of_lt (Nat.lt_succ_of_lt lt1)
        have nS : s.heap.objs.size ∉ [(s.heap.push (newSet w)).objs.size, l] := by
          rw [Heap.size_push]; simp only [List.mem_cons, List.mem_singleton, List.not_mem_nil, or_false, not_or]
          exact ⟨Nat.ne_of_lt (Nat.lt_succ_self _), Nat.ne_of_gt lt1⟩
        refine sr_loop ((Walks.list hh3 _ l neI items).toS) s.heap.objs.size nS xs sz0 hB hB64 val (items.size - 0) 0 0 _ (by omega) (Nat.zero_le _)
          ⟨⟨_, Heap.get?_push_size _ rfl, rfl, rfl⟩, (isL.push _)⟩ ?z0 ?zR
        case z0 =>
          have f := sr_fresh (h := s.heap) w
          exact f.at fun o ho => Heap.get?_push_of_some _ ho
        case zR =>
          intro z' n' mv hS'
          obtain ⟨h', g', d', tk', os'⟩ := z'
          have eg : g' = s.gens := mv.gens
          have ed : d' = s.drawn := mv.drawn
          have eo' : os' = s.os := mv.os
          subst eg; subst ed; subst eo'
          show wpAny _ _ _ _ _ _
          refine wpAny_pure ?_
          show wpAny _ _ (ret Value.none) _ _ _
          refine wpAny_pure ⟨rfl, h', tk', n', rfl, hS', fun b o e => ?_⟩
          have lb := Heap.lt_size e
          have n1 : b ≠ s.heap.objs.size := Nat.ne_of_lt lb
          have n2 : b ≠ (s.heap.push (newSet w)).objs.size := by rw [Heap.size_push]; exact Nat.ne_of_lt (Nat.lt_succ_of_lt lb)
          exact mv.heap b o (by simp only [List.mem_cons, List.mem_singleton, List.not_mem_nil, or_false, not_or]; exact ⟨n1, n2⟩) (Heap.get?_push_of_some _ (Heap.get?_push_of_some _ e))
      · cases r2 with
        | error e => exact hr2
        | ok fl2 =>
          cases fl2 with
          | ret r =>
            obtain ⟨rfl, h', tk, n', rfl, hS', kp⟩ := hr2
            repeat (any_goals (first | assumption | wp_step))
            exact fin _ _ _ hS' kp
          | _ => exact hr2.elim
    | _ => exact hr.elim
theorem strs_of_vals : ∀ (l : List Value), (∀ v ∈ l, ∃ x tk, v = Value.str x tk) → StrsAre l (l.map fun v => kS (0, v))
  | [], _ => .nil
  | v :: l, h => by
    obtain ⟨x, tk, rfl⟩ := h v List.mem_cons_self
    exact .cons x tk (strs_of_vals l fun u hu => h u (List.mem_cons_of_mem _ hu))
/-- sorted(set), a set of texts -/
theorem sorted_of_set {B : List Str} {Q : Value → Shared → Prop} (R : SR w s.heap a L n) (hh : A.handled = none) (hB : ∀ x ∈ L, x ∈ B) (hB64 : B.length < 64)
    (fin : ∀ s' p (out : Array Value) (c : Nat) (ys : List Str), (∀ b o, s.heap.get? b = some o → s'.heap.get? b = some o) → s'.gens = s.gens → s'.os = s.os → s.heap.objs.size ≤ p →
      s'.heap.get? p = some (seqObj "list" out c) → StrsAre out.toList ys → sortedS ys = true → ys.Nodup → (∀ k, k ∈ ys ↔ k ∈ L) → ys.length < 64 → Q (.ref p) s') :
    wpAny (model P w) A (call (.builtin "sorted") [.ref a]) Q E s := by
  have n64 : n < 64 := Nat.lt_of_le_of_lt (sr_room R hB) hB64
  obtain ⟨o, es, ep, t, ho, hex, hd, g, nd, hm, hb, hf, hn, hr, hl⟩ := R
  refine Calls.call_function_entry kind_sorted plain_sorted entry_sorted (args_sorted1 _) ?_
  unfold Builtin.«sorted»
  refine wpAny_bind (m := checkCount "sorted" 1 1 _) (wpAny_pure ?_)
  refine wpAny_bind (collect_set (A := A.in1) hh ⟨o, ho, hex.1, hd⟩ hf hb hr hl fun z vs k1 hz g1 o1 pm => ?_)
  have vl : vs.length = n := by rw [pm.length_eq, List.length_map, Array.length_toList]; exact hn
  have SA : StrsAre vs (vs.map fun v => kS (0, v)) := strs_of_vals vs fun v hv => by
    obtain ⟨e, he, q⟩ := List.mem_map.mp (pm.mem_iff.mp hv)
    obtain ⟨x, tk, h1, _⟩ := g e he
    exact ⟨x, tk, by rw [← q]; exact h1⟩
  have pk : (vs.map fun v => kS (0, v)).Perm (es.toList.map kS) := by
    have q := pm.map fun v => kS (0, v)
    rw [List.map_map] at q
    exact q
  refine wpAny_bind (wpAny_newList ?_ (by rw [vl, sizeLine_eq]; omega))
  have oL : (z.heap.push (seqObj "list" vs.toArray 0)).get? z.heap.objs.size = some (seqObj "list" vs.toArray 0) := Heap.get?_push_size _ rfl
  refine wpAny_bind (wpAny_holding (wpAny_call_entry slot_list_sort ⟨_, oL, rfl⟩ entry_list_sort
    (list_sort_treeK strKind_oneLt oL SA.keysOf (fun v₁ v₂ rest e => keyKind_strs (by rw [← e]; exact SA)) (by rw [vl]; exact n64) fun st' hp hs => ⟨_, rfl, ?_⟩) (args_list_sort _)))
  obtain ⟨ys, a1, a2, a3⟩ := sorted_out_str SA hp hs
  obtain ⟨c, hc⟩ := sortedHeap_at (vs := vs) (out := (arrOf st').map (·.2)) oL
  have pn : ys.Perm (es.toList.map kS) := a2.trans pk
  refine wpAny_pure ⟨_, rfl, fin _ z.heap.objs.size _ c ys (fun b u e => ?_) g1 o1 hz hc a1 a3 (pn.nodup_iff.mpr nd) (fun k => by rw [pn.mem_iff, ← hm k]) ?_⟩
  · have q := k1 b u e
    have lt := Heap.lt_size q
    show (sortedHeap (z.heap.push (seqObj "list" vs.toArray 0)) z.heap.objs.size vs _).get? b = some u
    rw [sortedHeap_old (Nat.ne_of_lt lt) (by rw [size_push']; exact Nat.lt_succ_of_lt lt)]
    exact Heap.get?_push_of_some _ q
  · rw [pn.length_eq, List.length_map, Array.length_toList, hn]; exact n64
end
/-- a set of texts, tracked -/
def SetS (w : World) (a : Addr) (L : List Str) : HO := .ext fun h => ∃ n, SR w h a L n
section
variable {X : Cx}
theorem setS_ok {P : Program} {w : World} {H : Hp} {h : Heap} {a : Addr} {L : List Str} {n : Nat} (R : SR w h a L n) : ObjOk P w H h a (SetS w a L) := by
  refine ⟨⟨n, R⟩, ?_, fun h1 h2 ⟨m, R1⟩ k => ⟨m, R1.at k⟩⟩
  obtain ⟨o, es, ep, t, ho, _⟩ := R
  exact ⟨o, ho⟩
def rSetS (K : PySem.W.Frag) (w : World) : List V → Hp → VK → Prop := fun vs H Q => ∃ (l : Addr) (xs B : List Str), vs = [.ref l] ∧ SqL K H l (xs.map V.str) ∧ (∀ x ∈ xs, x ∈ B) ∧ B.length < 64 ∧ ∀ p, H p = none → Q (.ref p) (upd H p (SetS w p xs))
theorem call_setS (hc : X.calm = true) : CallR X (.type "set") (rSetS X.K X.w) := by
  intro pins s σ H vs us Q I r h
  obtain ⟨l, xs, B, rfl, hl, hB, hB64, q⟩ := h
  rw [Vals.ref1 r]
  obtain ⟨its, rv, pl, hz⟩ := I.list hl
  have fr : H s.heap.objs.size = none := I.hok.fresh (Nat.le_refl _)
  have hlen : xs.length = its.toArray.size := by
    have := rv.length
    rw [List.length_map] at this
    simpa using this
  refine set_of_strs (P := X.prog) (w := X.w) (I.ok.hd hc) pl.isList hlen (fun i v hv => ?_) hB hB64 fun h' tk n R kp => ?_
  · have hv2 : its[i]? = some v := by simpa using hv
    have hi : i < xs.length := by rw [hlen]; simpa using (List.getElem?_eq_some_iff.mp hv2).1
    have hx : (xs.map V.str)[i]? = some (.str xs[i]) := by rw [List.getElem?_map, List.getElem?_eq_getElem hi]; rfl
    obtain ⟨u, hu, ru⟩ := rv.get hx
    rw [hv2] at hu; cases hu
    obtain ⟨t, e⟩ := (show ∃ t, v = Value.str xs[i] t from ru)
    exact ⟨xs[i], t, List.getElem?_eq_getElem hi, e⟩
  · exact ⟨.ref s.heap.objs.size, upd H s.heap.objs.size (SetS X.w s.heap.objs.size xs), I.laid (t' := tk) kp (Nat.le_refl _) (setS_ok R), rfl, q _ fr⟩
def rSortSetS (w : World) : List V → Hp → VK → Prop := fun vs H Q => ∃ (a : Addr) (L B : List Str), vs = [.ref a] ∧ H a = some (SetS w a L) ∧ (∀ x ∈ L, x ∈ B) ∧ B.length < 64 ∧
  ∀ (ys : List Str) (p : Addr), sortedS ys = true → ys.Nodup → (∀ k, k ∈ ys ↔ k ∈ L) → H p = none → Q (.ref p) (upd H p (.lst (ys.map V.str)))
theorem call_sortSetS (hc : X.calm = true) : CallR X (.builtin "sorted") (rSortSetS X.w) := by
  intro pins s σ H vs us Q I r h
  obtain ⟨a, L, B, rfl, ha, hB, hB64, q⟩ := h
  obtain ⟨n, R⟩ := (I.hok a _ ha).1
  rw [Vals.ref1 r]
  refine sorted_of_set (P := X.prog) R (I.ok.hd hc) hB hB64 fun s' p out c ys k g o hp hg hS h1 h2 h3 h4 => ?_
  have hlen : (ys.map V.str).length ≤ sizeLine := by rw [List.length_map, sizeLine_eq]; omega
  have fr : H p = none := I.hok.fresh hp
  have J : Inv X pins σ (upd H p (.lst (ys.map V.str))) { s with heap := s'.heap, gens := s'.gens, drawn := s'.drawn, toks := s'.toks } :=
    I.call (ch := []) (Un.laid k hp fr) (I.hok.laid k hp ⟨hlen, out.toList, c, vals_of_strs hS, hg⟩) (by rw [g]; exact I.bare) (fun _ z => nomatch z)
  have e : s' = { s with heap := s'.heap, gens := s'.gens, drawn := s'.drawn, toks := s'.toks } := by
    cases s'; cases s; cases o; rfl
  rw [e]
  exact ⟨.ref p, _, J, rfl, q ys p h1 h2 h3 fr⟩
end
end Kk

set_option maxHeartbeats 4000000
namespace Kk
open PySem PySem.Spec PyProof.Rows L2
/-- the element of a generator over a list: at place i, where the item stands in the heap as it stood ahead -/
def EltL (X : Cx) (P : Addr) (H1 : Hp) (sc : Scope) (x : Str) (e : Expr) (ys : List V) (F : Nat → Value → Prop) : Prop :=
  ∀ (ge : Env) (B : Around) (Fx : Value → Shared → Prop) (i : Nat) (v : V) (u : Value) (z1 z : Shared) (m : Str → Option Value),
    ge.scope = sc → ge.globals = mainGlobals → ge.builtins = builtinsNs → Mod X.K X.mg X.base → HOk X.prog X.w H1 z1.heap → X.K.In z1.heap →
    (∀ b o, X.base.get? b = some o → z.heap.get? b = some o) → (∀ b o, b ≠ P → z1.heap.get? b = some o → z.heap.get? b = some o) → (∃ ps, H1 P = some (.tbl ps)) →
    z.heap.Ns ge.locals m → ys[i]? = some v → RelV v u → m x = some u →
    wpAny (model X.prog X.w) B (eval e ge) (fun y z' => F i y ∧ Keeps z z') Fx z
section
variable {X : Cx} {pins : List (Addr × Obj)} {σ : L2.St} {H : Hp} {s : Shared}
/-- the generator g, ready to be walked -/
def RdyL (X : Cx) (pins : List (Addr × Obj)) (σ : L2.St) (H1 : Hp) (P : Addr) (n : Nat) (F : Nat → Value → Prop) (g : Addr) (s5 : Shared) : Prop :=
  ∃ (fp wr : List Addr) (G : Array GenState → Array GenState → Prop) (F' : Nat → Value → Prop) (St : Nat → Shared → Prop),
    WalksS X.prog X.w X.A.in1 g fp wr G n F' St ∧ St 0 s5 ∧ (∀ b ∈ fp, b < s5.heap.objs.size) ∧ (∀ j v, F' j v → F j v) ∧ ∀ s', Moved wr G s5 s' → ∃ H2, GxR.Tabbed P H1 H2 ∧ Inv X pins σ H2 s'
theorem genL {c P : Addr} {e it : Expr} {x : Str} {px gp : Pos} {sc : Scope} {te : TE} {k : Nat} {G : Value → Shared → Prop} {R : List V → (Nat → Value → Prop) → Hp → Prop} {W0 : V → Hp → Prop}
    (room : Room k X.A) (tab : GxR.TabB X.base X.mg c P) (code : X.env.code = .ref c) (gs : GxR.GenS X.env sc x) (pit : PE X it te)
    (fold : ∀ v, genFold it X.env v = pure v) (I : Inv X pins σ H s) (want : te σ H W0) (what : ∀ v H1, W0 v H1 → ∃ (yl : Addr) (ys : List V) (F : Nat → Value → Prop), v = .ref yl ∧ SqL X.K H1 yl ys ∧ GxR.TabG H1 P ∧ EltL X P H1 sc x e ys F ∧ R ys F H1)
    (fin : ∀ ys F H1 g s5, R ys F H1 → RdyL X pins σ H1 P ys.length F g s5 → G (.ref g) s5) :
    wpAny (model X.prog X.w) X.A (eval (.GeneratorExp e [⟨.Name x px, it, [], 0⟩] sc gp) X.env) G X.xe s := by
  have deep : X.A.depth < recursionLimit := by have q := room.dp; omega
  refine wpAny_GeneratorExp_walksQ room.hd gs.co (closure_ok gs.free) gs.cell gs.dot gs.loc gs.kind deep ?_ fold
  refine thn (pit.run pins s σ H _ I want) fun xv z ⟨v, H1, J, rv, got⟩ => ?_
  obtain ⟨yl, ys, F, rfl, hyl, ⟨rows, isT, trip⟩, pel, rest⟩ := what v H1 got
  obtain rfl : xv = Value.ref yl := rv
  obtain ⟨its, rel, pl, _⟩ := J.list hyl
  have isL := pl.isList
  have hlen : its.length = ys.length := rel.length.symm
  refine wpAny_pyIter_list isL ?_
  generalize eio : ({ cls := .type "list_iterator", data := .fields #[.ref yl, .int 0 0] } : Obj) = io
  have isI : (z.heap.push io).IsListIter z.heap.objs.size yl 0 := by
    subst eio
    exact ⟨_, Heap.get?_push_size _ rfl, rfl, rfl⟩
  have ltL : yl < z.heap.objs.size := by
    obtain ⟨_, q, _⟩ := _root_.id isL
    exact Heap.lt_size q
  have atP : z.heap.get? P = some { cls := .none, data := .fields rows } := J.hok P _ isT
  have ltP : P < z.heap.objs.size := Heap.lt_size atP
  have atP2 : (z.heap.push io).get? P = some { cls := .none, data := .fields rows } := Heap.get?_push_of_some _ atP
  have chd : PySem.W.CodeHd (z.heap.push io) c P := tab.code.keeps fun b u q => Heap.get?_push_of_some _ (J.bk b u q)
  have nl : (z.heap.push io).NoLimit := J.nolimit.push io
  have go : ∀ (cv : Value) (h3 : Heap) (tk : Nat) (rows' : Array Value), Heap.ExtBut P (z.heap.push io) h3 → (z.heap.push io).objs.size ≤ h3.objs.size →
      h3.get? P = some { cls := .none, data := .fields rows' } → (∃ more, rows' = rows ++ more) → TriplesOk rows'.toList →
      wpAny (model X.prog X.w) X.A (builtinsFor X.env.globals X.env.builtins) (fun bi s4 =>
        ∃ Ia fp wr n0 Pf S0 pz Fz, Value.ref z.heap.objs.size = .ref Ia ∧ (∀ B : Around, B.handled = none → Walks X.prog X.w B Ia fp wr n0 Pf S0) ∧
          S0 0 s4.heap ∧ (∀ b ∈ fp, b < s4.heap.objs.size) ∧ s4.heap.NoLimit ∧ cStatics ∉ wr ∧
          (∀ hr : Heap, (∀ b o, s4.heap.get? b = some o → hr.get? b = some o) →
            QuietGen X.prog X.w (genEnv sc (cloFrom X.env.cells sc.names []) s4.heap.objs.size cv bi X.env) x [] e (List.range s4.heap.objs.size) wr Pf pz Fz hr) ∧
          (∀ g h5 tk gst, gst.bare = true → s4.heap.objs.size < g → h5.objs.size = g + 1 → (∀ b o, s4.heap.get? b = some o → h5.get? b = some o) →
            WalksS X.prog X.w X.A.in4 g (g :: s4.heap.objs.size :: List.range s4.heap.objs.size) (s4.heap.objs.size :: wr) (GenOnlyQ s4.gens.size) (passing pz n0 0).length
              (fun j y => ∃ i, (passing pz n0 0)[j]? = some i ∧ Fz i y) (GenAt X.prog X.w X.A.in4 g s4.gens.size s4.heap.objs.size (List.range s4.heap.objs.size) wr pz n0 Fz) →
            GenAt X.prog X.w X.A.in4 g s4.gens.size s4.heap.objs.size (List.range s4.heap.objs.size) wr pz n0 Fz 0 { s4 with gens := s4.gens.push gst, toks := tk, heap := h5 } →
            G (.ref g) { s4 with gens := s4.gens.push gst, toks := tk, heap := h5 })) X.xe { z with heap := h3, toks := tk } := by
    intro cv h3 tk rows' ext le3 at3 grown trip3
    obtain ⟨bm, ob, b1, b2, b3, b4, b5, b6, b7, b8⟩ := tab.bm
    have cP : cStatics ≠ P := fun q => by
      obtain ⟨_, ns, _⟩ := J.nolimit
      obtain ⟨o9, es, ep, g9, d9, _⟩ := ns
      rw [q, atP] at g9; cases g9; cases d9
    have cLt : cStatics < z.heap.objs.size := let ⟨_, ns, _⟩ := J.nolimit; ns.lt
    have szI : (z.heap.push io).objs.size = z.heap.objs.size + 1 := Heap.size_push ..
    have kp3 : ∀ b u, b ≠ P → z.heap.get? b = some u → h3.get? b = some u := fun b u nb q => ext b u nb (Heap.get?_push_of_some _ q)
    have kpB : ∀ b u, X.base.get? b = some u → h3.get? b = some u ∧ b < z.heap.objs.size := fun b u q => by
      obtain ⟨q1, q2⟩ := J.bs b u q
      exact ⟨kp3 b u (fun zz => by rw [zz, isT] at q2; cases q2) q1, Heap.lt_size q1⟩
    have neP : yl ≠ P := fun zz => by
      obtain ⟨_, q, c1, _, d1⟩ := _root_.id isL
      rw [zz, atP] at q; cases q; cases d1
    have isL3 : h3.IsList yl its.toArray := by
      obtain ⟨ob2, q, r⟩ := _root_.id isL
      exact ⟨ob2, kp3 _ _ neP q, r⟩
    have isI3 : h3.IsListIter z.heap.objs.size yl 0 := isI.at fun u q => ext _ u (Nat.ne_of_gt ltP) q
    refine wpAny_builtinsFor (m := X.mg) (by rw [J.ok.glob]; exact ((J.mod.glob.keeps J.bk).push io).extBut ext tab.gP) b1 b2 (kp3 _ _ b4 (J.bk _ _ b5)) b6 b7 b8 ?_
    refine ⟨z.heap.objs.size, [z.heap.objs.size, yl], [z.heap.objs.size], its.toArray.size, (fun i v => its.toArray[i]? = some v), (fun i h => h.IsListIter z.heap.objs.size yl i ∧ h.IsList yl its.toArray), (fun _ => true), F, rfl,
      (fun B hB => Walks.list hB _ _ (Nat.ne_of_lt ltL) _), ⟨isI3, isL3⟩, ?_, nl.extBut ext cP, ?_, ?_, ?_⟩
    · intro b hb
      rcases List.mem_cons.mp hb with q | q
      · rw [q]; show z.heap.objs.size < h3.objs.size; omega
      · rcases List.mem_cons.mp q with q | q
        · rw [q]
          have q9 : z.heap.objs.size ≤ h3.objs.size := by omega
          exact Nat.lt_of_lt_of_le ltL q9
        · cases q
    · intro q
      rcases List.mem_cons.mp q with q | q
      · exact Nat.ne_of_lt cLt q
      · cases q
    · intro hr hhr
      refine ⟨fun B E' i v s2 m2 hB hPv hn hm hk => ?_, fun B E' i v s2 m2 hB hPv hp hn hm hk => ?_⟩
      · simp only [List.forIn_nil]
        exact wpAny_pure ⟨rfl, GxR.keeps_refl _⟩
      · have hv2 : its[i]? = some v := by simpa using hPv
        have hi2 : i < ys.length := by rw [← hlen]; exact (List.getElem?_eq_some_iff.mp hv2).1
        obtain ⟨u2, hu2, ru2⟩ := rel.get (List.getElem?_eq_getElem hi2)
        rw [hv2] at hu2
        cases hu2
        have kept : ∀ b o, b < z.heap.objs.size → h3.get? b = some o → s2.heap.get? b = some o := fun b o lb q =>
          hk b (List.mem_range.mpr (Heap.lt_size q)) (fun zz => by
            rcases List.mem_cons.mp zz with zz | zz
            · exact Nat.ne_of_lt lb zz
            · cases zz) o (hhr b o q)
        exact pel _ B E' i _ v z s2 m2 rfl J.ok.glob rfl J.ok.mod J.hok J.kIn (fun b o q => kept b o (kpB b o q).2 (kpB b o q).1)
          (fun b o nb q => kept b o (Heap.lt_size q) (kp3 b o nb q)) ⟨rows, isT⟩ hn (List.getElem?_eq_getElem hi2) ru2 hm
    · intro g h5 tk5 gst bare gt sz5 kp5 W5 at0
      simp only [GxR.passing_true, List.length_range] at W5
      have n5 : its.toArray.size = ys.length := by rw [List.size_toArray, hlen]
      rw [n5] at W5 at0
      refine fin ys F H1 g _ rest ⟨_, _, _, _, _, W5.in4_1, at0, ?_, ?_, fun s9 mv => ?_⟩
      · intro b hb
        show b < h5.objs.size
        have q5 : h5.objs.size = g + 1 := sz5
        have q8 : h3.objs.size < g := gt
        rw [q5]
        rcases List.mem_cons.mp hb with q | q
        · rw [q]; exact Nat.lt_succ_self g
        · rcases List.mem_cons.mp q with q | q
          · rw [q]; show h3.objs.size < g + 1; omega
          · have q' : b < h3.objs.size := List.mem_range.mp q
            exact Nat.lt_of_lt_of_le q' (by omega)
      · intro j y hy
        obtain ⟨i, hij, hFy⟩ := hy
        obtain ⟨hj, ej⟩ := List.getElem?_eq_some_iff.mp hij
        rw [List.getElem_range] at ej
        subst ej
        exact hFy
      · obtain ⟨more, em⟩ := grown
        have nw : ∀ b u, z.heap.get? b = some u → b ∉ h3.objs.size :: [z.heap.objs.size] := fun b u q hb => by
          have lb := Heap.lt_size q
          rcases List.mem_cons.mp hb with q | q
          · rw [q] at lb
            have q9 : (h3.objs.size : Nat) < z.heap.objs.size := lb
            omega
          · rcases List.mem_cons.mp q with q | q
            · rw [q] at lb; exact Nat.lt_irrefl _ lb
            · cases q
        have J2 := GxR.inv_tab (more := more) (h' := s9.heap) (g' := s9.gens) (d' := s9.drawn) (t' := s9.toks) J isT (fun b u nb q => mv.heap b u (nw b u q) (kp5 b u (kp3 b u nb q)))
          (by rw [← em]; exact mv.heap P _ (nw P _ atP) (kp5 P _ at3)) (AllBare.movedS (J.bare.push bare) mv)
        rw [GxR.sh_eta z s9 mv.os] at J2
        exact ⟨upd H1 P (.tbl (rows ++ more)), ⟨⟨rows ++ more, upd_same, by rw [← em]; exact trip3⟩, fun b nb => upd_ne nb⟩, J2⟩
  refine ⟨nl, ?_⟩
  cases am : codeAmong gp rows.toList with
  | none =>
    refine wpAny_genexprCodeX code (chd.code atP2 trip) (chd.tab atP2) am fun c' h' tk hx hge hlt hco _ htab _ => ?_
    obtain ⟨o1, vs, f1, tf, fl, tg, inF, tx, tt, op, _, _, _, _, _, _, _, _, _, htr, _⟩ := hco
    exact go _ h' tk _ hx (Nat.le_trans hge (Nat.le_of_lt hlt)) htab.2 ⟨_, rfl⟩ htr
  | some cv =>
    refine wpAny_genexprCode_hit code (chd.code atP2 trip) am ?_
    exact go cv (z.heap.push io) z.toks rows (Heap.ExtBut.refl _ _) (Nat.le_refl _) atP2 ⟨#[], by simp⟩ trip
/-- sum(e for x in a list) -/
def tSumL (X : Cx) (P : Addr) (sc : Scope) (x : Str) (e : Expr) (te : TE) : TE := fun σ H Q => te σ H fun v H1 => ∃ (yl : Addr) (ys : List V) (val : Nat → Int), v = .ref yl ∧ SqL X.K H1 yl ys ∧ GxR.TabG H1 P ∧
  EltL X P H1 sc x e ys (fun i y => ∃ t, y = .int (val i) t) ∧ ∀ H2, GxR.Tabbed P H1 H2 → Q (.int (preSum val ys.length)) H2
theorem pe_sumL {c P : Addr} {e it : Expr} {x : Str} {px p pos gp : Pos} {sc : Scope} {te : TE} {k : Nat}
    (room : Room k X.A) (hg : Gl X "sum") (hm : X.mg "sum" = none) (tab : GxR.TabB X.base X.mg c P) (code : X.env.code = .ref c) (gs : GxR.GenS X.env sc x) (pit : PE X it te)
    (fold : ∀ v, genFold it X.env v = pure v)
    (he : starEach [.GeneratorExp e [⟨.Name x px, it, [], 0⟩] sc gp] X.env = (false, eval (.GeneratorExp e [⟨.Name x px, it, [], 0⟩] sc gp) X.env) :: starEach [] X.env := by rfl) :
    PE X (.Call (.Name "sum" p) [.GeneratorExp e [⟨.Name x px, it, [], 0⟩] sc gp] [] pos) (tSumL X P sc x e te) := by
  refine ⟨fun pins s σ H Q I want => ?_⟩
  have hb : bootBuiltins "sum" = some (.builtin "sum") := by decide +kernel
  refine wpAny_Call_Name_kw (ld_blt I hg hm hb ?_)
  refine PyProof.Rows.callWith_builtin1 ?_ he (by rfl)
  rw [he]
  show wpAny _ _ (spliced ((false, eval (.GeneratorExp e [⟨.Name x px, it, [], 0⟩] sc gp) X.env) :: backTo pos (starEach [] X.env))) _ _ s
  refine Calls.spliced_cons (genL (R := fun ys F H1 => ∃ val : Nat → Int, F = (fun i y => ∃ t, y = .int (val i) t) ∧ ∀ H2, GxR.Tabbed P H1 H2 → Q (.int (preSum val ys.length)) H2) room tab code gs pit fold I want (fun v H1 hv => ?_) fun ys F H1 g s5 hR rd => ?_)
  · obtain ⟨yl, ys, val, e1, e2, e3, e4, e5⟩ := hv
    exact ⟨yl, ys, _, e1, e2, e3, e4, val, rfl, e5⟩
  · obtain ⟨val, eF, hR⟩ := hR
    obtain ⟨fp, wr, G, F', St, W, hst, hfp, hF, hI⟩ := rd
    refine Calls.spliced_nil ?_
    refine call_sum_walkAnyS (W.self 0 _ _ _ hst ⟨g, fp, wr, G, _, F', St, val, rfl, W, hst, hfp, fun i v hv => ?_, fun s' t' mv => ?_⟩)
    · have := hF i v hv
      rw [eF] at this; exact this
    · obtain ⟨H2, hT, J⟩ := hI s' mv
      exact ⟨.int _, H2, J, ⟨_, rfl⟩, hR H2 hT⟩
/-- len(x), x a tuple -/
theorem elt_len {P : Addr} {H1 : Hp} {sc : Scope} {x : Str} {ys : List V} {val : Nat → Int} {p1 p2 p3 : Pos} (hk : sc.kind = .function) (hl : sc.names.lookup x = some .local) (hy : sc.names.lookup ("len" : Str) = some .globalImplicit) (ml : X.mg "len" = none)
    (items : ∀ i v, ys[i]? = some v → ∃ a ts, v = .ref a ∧ SqT X.K H1 a ts ∧ val i = ts.length) (hd : (x == ("__debug__" : Str)) = false := by decide) :
    EltL X P H1 sc x (.Call (.Name "len" p1) [.Name x p2] [] p3) ys (fun i y => ∃ t, y = .int (val i) t) := by
  intro ge B Fx i v u z1 z m hs hgl hbl mod hok kin kb k1 hP hn hi rv hx
  obtain ⟨a, ts, rfl, hT, ev⟩ := items i v hi
  obtain rfl : u = Value.ref a := rv
  have hk' : ge.scope.kind = .function := by rw [hs]; exact hk
  have isT : ∃ its : List Value, ts.length = its.length ∧ its.length ≤ sizeLine ∧ IsTup z.heap a its.toArray := by
    rcases hT with hT | ⟨o, its, n, e1, e2, e3, e4, e5⟩
    · obtain ⟨q1, its, q2, ob, q3, q4⟩ := hT.ok hok
      refine ⟨its, q2.length, by rw [← q2.length]; exact q1, ob, k1 a ob (fun zz => ?_) q3, q4⟩
      obtain ⟨ps, hP⟩ := hP
      rcases hT with hT | ⟨o, hT⟩
      · rw [zz, hP] at hT; cases hT
      · rw [zz, hP] at hT; cases hT
    · exact ⟨its.toList, e5.length, by simpa using e4, o, kb a o (mod.kin a o e1), e2, n, by simpa using e3⟩
  obtain ⟨its, l1, l2, hI⟩ := isT
  refine wpAny_Call_Name_kw ?_
  obtain ⟨mb, h1, h2⟩ := mod.blt
  refine Calls.Name_function_global hk' (by show ge.scope.names.lookup _ = _; rw [hs]; exact hy) (Calls.loadGlobal_builtin (by rw [hgl]; exact mod.glob.keeps kb) ml (by rw [hbl]; exact h1.keeps kb) ((h2 "len" (by decide)).trans PySem.boot_len) ?_) (by decide)
  refine PyProof.Rows.callWith_builtin1 ?_ rfl (by rfl)
  show wpAny _ _ (spliced ((false, eval (.Name x p2) ge) :: backTo p3 (starEach [] ge))) _ _ z
  refine Calls.spliced_cons (wpAny_Name (wpAny_loadName_local hk' (show ge.scope.names.lookup x = some .local by rw [hs]; exact hl) hn hx ?_) hd)
  refine Calls.spliced_nil ?_
  refine PyProof.Rows.len_tuple hI ?_ ⟨⟨z.toks + 1, ?_⟩, GxR.keeps_tok z _⟩
  · rw [sizeLine_eq] at l2
    simp only [List.size_toArray]; omega
  · rw [ev, l1]; simp
end
end Kk

set_option maxHeartbeats 4000000
namespace Kk
open PySem PySem.Spec PyProof.Rows L2
abbrev ifsOk (fs : List Expr) (env : Env) : Sem Bool := forIn fs true fun c r => if r = true then (isTrue c env (eval c env) >>= fun ok => pure (ForInStep.yield ok)) else pure (ForInStep.yield r)
abbrev tailO (e : Expr) (k : Nat) (i1 : Expr) (it acc : Value) (env : Env) : Sem Fin := do
  let x ← eval i1 env
  standAt i1.pos
  let x ← foldedSetIterable i1 env x
  let j ← holding [x] (pyIter x)
  let _ ← runOwn (.compStart e (k + 1) j acc env) env
  again (.compLoop e k it acc env)
abbrev tailI (e : Expr) (k : Nat) (elt : Expr) (it acc : Value) (env : Env) : Sem Fin := do
  (do
    let v ← eval elt env
    let _ ← call (.builtin "list.append") [acc, v])
  again (.compLoop e k it acc env)
abbrev turnOf (e : Expr) (k : Nat) (p : Pos) (tg : Expr) (fs : List Expr) (tail : Sem Fin) (it acc : Value) (env : Env) : Sem Fin := do
  standAt p
  match ← pyNext it with
  | none => pure (.done .next)
  | some v => do
    letOwnedTupleGo tg it v
    assign tg env v
    let ok ← ifsOk fs env
    if ok = true then tail else again (.compLoop e k it acc env)
abbrev e3 (elt t0 i0 : Expr) (f0 : List Expr) (t1 i1 : Expr) (f1 : List Expr) (t2 i2 : Expr) (f2 : List Expr) (sc : Scope) (pos : Pos) : Expr := .ListComp elt [⟨t0, i0, f0, 0⟩, ⟨t1, i1, f1, 0⟩, ⟨t2, i2, f2, 0⟩] sc pos
section
variable {elt t0 i0 t1 i1 t2 i2 : Expr} {f0 f1 f2 : List Expr} {sc : Scope} {pos : Pos} {it acc : Value} {env : Env}
theorem turn3_0 : compTurn (e3 elt t0 i0 f0 t1 i1 f1 t2 i2 f2 sc pos) 0 it acc env = turnOf (e3 elt t0 i0 f0 t1 i1 f1 t2 i2 f2 sc pos) 0 i0.pos t0 f0 (tailO (e3 elt t0 i0 f0 t1 i1 f1 t2 i2 f2 sc pos) 0 i1 it acc env) it acc env := by rfl
theorem turn3_1 : compTurn (e3 elt t0 i0 f0 t1 i1 f1 t2 i2 f2 sc pos) 1 it acc env = turnOf (e3 elt t0 i0 f0 t1 i1 f1 t2 i2 f2 sc pos) 1 i1.pos t1 f1 (tailO (e3 elt t0 i0 f0 t1 i1 f1 t2 i2 f2 sc pos) 1 i2 it acc env) it acc env := by rfl
theorem turn3_2 : compTurn (e3 elt t0 i0 f0 t1 i1 f1 t2 i2 f2 sc pos) 2 it acc env = turnOf (e3 elt t0 i0 f0 t1 i1 f1 t2 i2 f2 sc pos) 2 i2.pos t2 f2 (tailI (e3 elt t0 i0 f0 t1 i1 f1 t2 i2 f2 sc pos) 2 elt it acc env) it acc env := by rfl
end
section
variable {prog : Program} {w : World} {A : Around} {R : Result → Shared → Prop} {s : Shared}
abbrev nb (prog : Program) (w : World) (A : Around) (env : Env) (R : Result → Shared → Prop) : Value → Shared → Prop := notedBy (model prog w) A env fun e s' => R (.error e) s'
/-- where a turn leads -/
abbrev to_ (R : Result → Shared → Prop) (c : Code) (G : Shared → Prop) : Fin → Shared → Prop := fun fin s' => match fin with | .done f => R (.ok f) s' | .again c' => c' = c ∧ G s'
theorem clause_loop {e tg : Expr} {k : Nat} {it acc : Value} {env : Env} {p : Pos} {fs : List Expr} {tail : Sem Fin} (hq : Code.quiet (.compLoop e k it acc env) = true)
    (hu : A.under (.compLoop e k it acc env) = A)
    (hm : (model prog w).den (.compLoop e k it acc env) = (compTurn e k it acc env).onRaise (fun x => do noteFrame x env; theTreesLotGoes x))
    (ht : compTurn e k it acc env = turnOf e k p tg fs tail it acc env) (I : Nat → Shared → Prop)
    (turn : ∀ n s, I n s → wpAny (model prog w) A (pyNext it) (fun r s1 => match r with
      | none => R (.ok .next) s1
      | some v => wpAny (model prog w) A (letOwnedTupleGo tg it v) (fun _ s2 => wpAny (model prog w) A (assign tg env v) (fun _ s3 => wpAny (model prog w) A (ifsOk fs env) (fun ok s4 =>
          if ok = true then wpAny (model prog w) A tail (to_ R (.compLoop e k it acc env) fun s' => ∃ m, m < n ∧ I m s') (nb prog w A env R) s4
          else ∃ m, m < n ∧ I m s4) (nb prog w A env R) s3) (nb prog w A env R) s2) (nb prog w A env R) s1) (nb prog w A env R) s)
    (n : Nat) (h : I n s) : codeAny (model prog w) A (.compLoop e k it acc env) R s := by
  refine codeAny_loop hq I (fun n s hI => ?_) n h
  rw [hu, hm]
  refine wpAny_noted ?_
  rw [ht]
  refine wpAny_bind (wpAny_standAt (wpAny_bind (wpAny_mono (turn n s hI) (fun r s1 h1 => ?_) fun _ _ h' => h')))
  cases r with
  | none => exact wpAny_pure h1
  | some v =>
    refine wpAny_bind (wpAny_mono h1 (fun _ s2 h2 => wpAny_bind (wpAny_mono h2 (fun _ s3 h3 => wpAny_bind (wpAny_mono h3 (fun ok s4 h4 => ?_) fun _ _ h' => h')) fun _ _ h' => h')) fun _ _ h' => h')
    cases ok with
    | false => exact wpAny_pure ⟨rfl, h4⟩
    | true => exact h4
theorem loop3 {elt t0 i0 t1 i1 t2 i2 : Expr} {f0 f1 f2 : List Expr} {sc : Scope} {pos : Pos} {it acc : Value} {env : Env} {k : Nat} {p : Pos} {tg : Expr} {fs : List Expr} {tail : Sem Fin}
    (ht : compTurn (e3 elt t0 i0 f0 t1 i1 f1 t2 i2 f2 sc pos) k it acc env = turnOf (e3 elt t0 i0 f0 t1 i1 f1 t2 i2 f2 sc pos) k p tg fs tail it acc env) (I : Nat → Shared → Prop)
    (turn : ∀ n s, I n s → wpAny (model prog w) A (pyNext it) (fun r s1 => match r with
      | none => R (.ok .next) s1
      | some v => wpAny (model prog w) A (letOwnedTupleGo tg it v) (fun _ s2 => wpAny (model prog w) A (assign tg env v) (fun _ s3 => wpAny (model prog w) A (ifsOk fs env) (fun ok s4 =>
          if ok = true then wpAny (model prog w) A tail (to_ R (.compLoop (e3 elt t0 i0 f0 t1 i1 f1 t2 i2 f2 sc pos) k it acc env) fun s' => ∃ m, m < n ∧ I m s') (nb prog w A env R) s4
          else ∃ m, m < n ∧ I m s4) (nb prog w A env R) s3) (nb prog w A env R) s2) (nb prog w A env R) s1) (nb prog w A env R) s)
    (n : Nat) (h : I n s) : codeAny (model prog w) A (.compLoop (e3 elt t0 i0 f0 t1 i1 f1 t2 i2 f2 sc pos) k it acc env) R s :=
  clause_loop rfl rfl rfl ht I turn n h
theorem tailO_ok {e i1 : Expr} {k : Nat} {it acc : Value} {env : Env} {G : Shared → Prop} {E : Value → Shared → Prop} (hs : ∀ x, foldedSetIterable i1 env x = pure x)
    (h : wpAny (model prog w) A (eval i1 env) (fun x s1 => wpAny (model prog w) A (pyIter x) (fun j s2 => codeAny (model prog w) A (.compStart e (k + 1) j acc env) (fun r s' => match r with
      | .ok _ => G s'
      | .error _ => False) s2) E s1) E s) :
    wpAny (model prog w) A (tailO e k i1 it acc env) (to_ R (.compLoop e k it acc env) G) E s := by
  refine wpAny_bind (wpAny_mono h (fun x s1 h1 => ?_) fun _ _ h' => h')
  refine wpAny_bind (wpAny_standAt (wpAny_bind (wpAny_of_eq (hs x) (wpAny_bind (wpAny_holding (wpAny_mono h1 (fun j s2 h2 => ?_) fun _ _ h' => h'))))))
  refine wpAny_bind (wpAny_runOwn ?_)
  rw [Around.mark_none]
  refine codeAny_mono h2 fun r s' hr => ?_
  cases r with
  | ok f => exact wpAny_pure ⟨rfl, hr⟩
  | error x => exact hr.elim
theorem start3 {elt t0 i0 t1 i1 t2 i2 : Expr} {f0 f1 f2 : List Expr} {sc : Scope} {pos : Pos} {it acc : Value} {env : Env} {k : Nat} (hk : k = 1 ∨ k = 2)
    (h0 : codeAny (model prog w) A (.compLoop (e3 elt t0 i0 f0 t1 i1 f1 t2 i2 f2 sc pos) k it acc env) R s)
    (h : wpAny (model prog w) A (pyIter it) (fun j s' => codeAny (model prog w) A (.compLoop (e3 elt t0 i0 f0 t1 i1 f1 t2 i2 f2 sc pos) k j acc env) R s') (nb prog w A env R) s) :
    codeAny (model prog w) A (.compStart (e3 elt t0 i0 f0 t1 i1 f1 t2 i2 f2 sc pos) k it acc env) R s := by
  refine codeAny_of_tree ?_
  show wpAny _ _ ((compStart (e3 elt t0 i0 f0 t1 i1 f1 t2 i2 f2 sc pos) k it acc env).onRaise (fun x => do noteFrame x env; standAt theWindowsPlace)) _ _ s
  refine wpAny_notedAt ?_
  rcases hk with rfl | rfl
  all_goals
    unfold compStart
    show wpAny _ _ (ask >>= _) _ _ s
    refine wpAny_bind (wpAny_askSetting (wpAny_ite ?_))
    split
    · first
        | exact wpAny_bind (wpAny_pure (wpAny_pure (And.intro rfl h0)))
        | exact wpAny_pure (And.intro rfl h0)
    · refine wpAny_bind (wpAny_rule ?_)
      first
        | exact wpAny_bind (wpAny_standAt (wpAny_bind (wpAny_mono h (fun j s' h' => wpAny_pure (And.intro rfl h')) fun _ _ x => x)))
        | (show wpAny _ _ (standAt _ >>= _) _ _ s; exact wpAny_bind (wpAny_standAt (wpAny_bind (wpAny_mono h (fun j s' h' => wpAny_pure (And.intro rfl h')) fun _ _ x => x))))
end
/-- what stands behind a clause's tests: from the slots as they are to what is wanted next; only vs may be lost -/
def Bd (Y : Cx) (vs : List Nat) (body : Sem Fin) (c : Code) (tb : L2.St → Hp → (Hp → Prop) → Prop) : Prop := ∀ (pins : List (Addr × Obj)) (s : Shared) (σ : L2.St) (H : Hp) (Nx : Hp → Prop) (R : Result → Shared → Prop), Inv Y pins σ H s → tb σ H Nx →
  wpAny (model Y.prog Y.w) Y.A body (to_ R c fun s' => ∃ σ' H', Inv Y pins σ' H' s' ∧ σ'.length = σ.length ∧ (∀ (j : Nat) v, j ∉ vs → σ[j]? = some (some v) → σ'[j]? = some (some v)) ∧ Nx H') (fun _ _ => False) s
def tApp (D : Addr) (te : TE) : L2.St → Hp → (Hp → Prop) → Prop := fun σ H Nx => te σ H fun y H4 => ∃ acc, H4 D = some (.lst acc) ∧ acc.length < sizeLine ∧ Nx (upd H4 D (.lst (acc ++ [y])))
def tLvl (wi : TI) (g : TG) (tt : TT) (tb : L2.St → Hp → (Hp → Prop) → Prop) (vs : List Nat) : L2.St → Hp → (Hp → Prop) → Prop := fun σ H Nx => wi σ H fun J H1 => ∃ W : Nat → Nat → Hp → Prop, (∃ m, W 0 m H1) ∧ ∀ i m H, W i m H →
  (J.stop i H ∧ Nx H) ∨ (J.go i H ∧ ∃ N1 : Hp → Prop, (∀ H', N1 H' → ∃ m', m' < m ∧ W (i + 1) m' H') ∧ ∀ x H', J.yld i H x H' → g x (wipe σ vs) H' fun σ2 H2 => wipe σ2 vs = wipe σ vs ∧ tt σ2 H2 fun b H3 => if b = true then tb σ2 H3 N1 else N1 H3)
section
variable {Y : Cx} {elt t0 i0 t1 i1 t2 i2 : Expr} {f0 f1 f2 : List Expr} {sc : Scope} {pos : Pos} {D : Addr}
theorem bd_in {e : Expr} {k : Nat} {te : TE} {it : Value} (hx : ∀ v s, ¬ Y.xe v s) (pe : PE Y elt te) : Bd Y [] (tailI e k elt it (.ref D) Y.env) (.compLoop e k it (.ref D) Y.env) (tApp D te) := by
  intro pins s σ H Nx R I h
  refine wpAny_bind (wpAny_bind (wpAny_mono (pe.run pins s σ H _ I h) (fun v s1 h1 => ?_) fun v s q => (hx v s q).elim))
  obtain ⟨y, H1, I1, r1, acc, hD, hz, nx⟩ := h1
  refine wpAny_bind (app_ok I1 hD hz r1 fun s2 I2 => wpAny_pure (wpAny_pure ⟨rfl, σ, _, I2, rfl, fun _ _ _ q => q, nx⟩))
theorem bd_out {k1 : Nat} {p : Pos} {j1 tg : Expr} {fs : List Expr} {tl : Value → Sem Fin} {wi : TI} {g : TG} {tt : TT} {tb : L2.St → Hp → (Hp → Prop) → Prop} {vs1 vs2 : List Nat} {k : Nat} {it0 : Value}
    (ek : k1 = k + 1) (hk : k1 = 1 ∨ k1 = 2) (hc : Y.calm = true) (hx : ∀ v s, ¬ Y.xe v s) (hs : ∀ x, foldedSetIterable j1 Y.env x = pure x) (pi : PI Y tg j1 wi) (pg : PG Y tg g) (pt : PTs Y fs tt)
    (ht : ∀ it, compTurn (e3 elt t0 i0 f0 t1 i1 f1 t2 i2 f2 sc pos) k1 it (.ref D) Y.env = turnOf (e3 elt t0 i0 f0 t1 i1 f1 t2 i2 f2 sc pos) k1 p tg fs (tl it) it (.ref D) Y.env)
    (bd : ∀ it, Bd Y vs2 (tl it) (.compLoop (e3 elt t0 i0 f0 t1 i1 f1 t2 i2 f2 sc pos) k1 it (.ref D) Y.env) tb) (sub : ∀ j ∈ vs2, j ∈ vs1) :
    Bd Y vs1 (tailO (e3 elt t0 i0 f0 t1 i1 f1 t2 i2 f2 sc pos) k j1 it0 (.ref D) Y.env) (.compLoop (e3 elt t0 i0 f0 t1 i1 f1 t2 i2 f2 sc pos) k it0 (.ref D) Y.env) (tLvl wi g tt tb vs1) := by
  intro pins s σ H Nx R I h
  subst ek
  have thx : ∀ {α : Type} {t : Sem α} {Q Q' : α → Shared → Prop} {E' : Value → Shared → Prop} {s : Shared}, wpAny (model Y.prog Y.w) Y.A t Q Y.xe s → (∀ a s, Q a s → Q' a s) → wpAny (model Y.prog Y.w) Y.A t Q' E' s :=
    fun h q => wpAny_mono h q fun v s z => (hx v s z).elim
  refine tailO_ok hs (thx (pi.run pins s σ H _ I h) fun xv s1 hx1 => thx hx1 fun itv s2 h2 => ?_)
  obtain ⟨it, fp, tn, J, H2, e1, I2, T, st2, f2', W, ⟨m0, w0⟩, turn⟩ := h2
  subst e1
  have stat : ∀ {H' : Hp}, (∀ b ∈ fp, H' b = none) → ∀ b ∈ fp, FpOk Y pins H' b := fun hn b hb => ⟨hn b hb, (f2' b hb).2⟩
  have loop : codeAny (model Y.prog Y.w) Y.A (.compLoop (e3 elt t0 i0 f0 t1 i1 f1 t2 i2 f2 sc pos) (k + 1) (.ref it) (.ref D) Y.env) (fun r s' => match r with
      | .ok _ => ∃ σ' H', Inv Y pins σ' H' s' ∧ σ'.length = σ.length ∧ (∀ (j : Nat) v, j ∉ vs1 → σ[j]? = some (some v) → σ'[j]? = some (some v)) ∧ Nx H'
      | .error _ => False) s2 := by
    refine loop3 (ht (.ref it)) (fun n s' => ∃ i H', Inv Y pins (wipe σ vs1) H' s' ∧ tn i s'.heap ∧ (∀ b ∈ fp, H' b = none) ∧ W i n H') ?_ m0 ⟨0, H2, I2.weak (wipe_length _ _) (fun j v e => (wipe_some e).1), st2, fun b hb => (f2' b hb).1, w0⟩
    rintro n s3 ⟨i, H3, I3, st3, n3, w3⟩
    rcases turn i n H3 w3 with ⟨stop, nx⟩ | ⟨go, N1, hN1, step⟩
    · refine thnF (T.done Y rfl rfl rfl hc i _ s3 (wipe σ vs1) H3 (fun _ _ => False) I3 (stat n3) st3 stop) fun r s4 ⟨hr, I4⟩ => ?_
      subst hr
      exact ⟨_, H3, I4, wipe_length _ _, fun j v nj e => by rw [wipe_out nj]; exact e, nx⟩
    · refine thnF (T.item Y rfl rfl rfl hc i _ s3 (wipe σ vs1) H3 (fun _ _ => False) I3 (stat n3) st3 go) fun r s4 ⟨u, hr, h4⟩ => ?_
      subst hr
      refine thnF h4 fun _ s5 ⟨x, H5, I5, r5, y5, st5, n5⟩ => ?_
      have I5' := I5.pinned (stat n5) (T.obj _ _ st5)
      refine thx (pg.run _ s5 (wipe σ vs1) H5 x u _ I5' r5 (step x H5 y5)) fun _ s6 ⟨σ6, H6, I6, hw6, q6⟩ => ?_
      refine thx (pt.run _ s6 σ6 H6 _ I6 q6) fun b s7 ⟨H7, I7, q7⟩ => ?_
      have fin : ∀ {s' : Shared} {H' : Hp} {σ' : L2.St}, Inv Y (pins ++ pinsAt fp s5.heap) σ' H' s' → σ'.length = σ6.length → (∀ (j : Nat) v, j ∉ vs2 → σ6[j]? = some (some v) → σ'[j]? = some (some v)) → N1 H' →
          ∃ m, m < n ∧ ∃ i H', Inv Y pins (wipe σ vs1) H' s' ∧ tn i s'.heap ∧ (∀ b ∈ fp, H' b = none) ∧ W i m H' := fun {s' H' σ'} I' hl hk nx => by
        obtain ⟨m', hm, w'⟩ := hN1 H' nx
        have pin' : ∀ b ∈ fp, ∀ o, s5.heap.get? b = some o → s'.heap.get? b = some o ∧ H' b = none := fun b hb o e =>
          let z := I'.pin (b, o) (List.mem_append_right _ (List.mem_append_right _ (mem_pinsAt hb e)))
          ⟨z.1, z.2.1⟩
        refine ⟨m', hm, i + 1, H', I'.unpinned.weak (by rw [hl, ← hw6, wipe_length]) (fun j v e => ?_), T.keep _ _ _ st5 fun b hb o e => (pin' b hb o e).1, fun b hb => ?_, w'⟩
        · rw [← hw6] at e
          obtain ⟨z1, z2⟩ := wipe_some e
          exact hk j v (fun z => z2 (sub j z)) z1
        · obtain ⟨o, e, _⟩ := T.obj _ _ st5 b hb
          exact (pin' b hb o e).2
      cases b with
      | false =>
        simp only [Bool.false_eq_true, if_false] at q7 ⊢
        exact fin I7 rfl (fun _ _ _ q => q) q7
      | true =>
        simp only [if_true] at q7 ⊢
        refine thnF (bd (.ref it) _ s7 σ6 H7 N1 (fun _ _ => False) I7 q7) fun fn s8 h8 => ?_
        cases fn with
        | done f => exact (show False from h8).elim
        | again c' =>
          obtain ⟨e8, σ8, H8, I8, l8, k8, nx8⟩ := h8
          exact ⟨e8, fin I8 l8 k8 nx8⟩
  exact start3 hk loop (T.self Y.A 0 _ _ _ st2 loop)
end
section
variable {X : Cx} {elt t0 i0 t1 i1 t2 i2 : Expr} {f0 f1 f2 : List Expr} {sc : Scope} {pos : Pos}
def tLc3 (wi : TI) (g : TG) (tt : TT) (wi1 : TI) (g1 : TG) (tt1 : TT) (wi2 : TI) (g2 : TG) (tt2 : TT) (te : TE) (vs vs1 vs2 : List Nat) : TE := fun σ H Q => wi σ H fun J H1 => ∀ D, H1 D = none → ∃ W : Nat → Nat → Hp → Prop, (∃ m, W 0 m (upd H1 D (.lst []))) ∧ ∀ i m H, W i m H →
  (J.stop i H ∧ Q (.ref D) H) ∨ (J.go i H ∧ ∃ N1 : Hp → Prop, (∀ H', N1 H' → ∃ m', m' < m ∧ W (i + 1) m' H') ∧ ∀ x H', J.yld i H x H' → g x (wipe σ vs) H' fun σ2 H2 => wipe σ2 vs = wipe σ vs ∧ tt σ2 H2 fun b H3 =>
    if b = true then tLvl wi1 g1 tt1 (tLvl wi2 g2 tt2 (tApp D te) vs2) vs1 σ2 H3 N1 else N1 H3)
abbrev Blk (X : Cx) (sc : Scope) (p : Cx → Prop) : Prop := ∀ (s : Shared) (H : Hp) (C : Addr) (cl : List (Str × Addr)) (fp : List Addr), p (X.blk s H sc (compEnvC sc cl C X.env) fp)
theorem pe_lc3 {own : List (Str × Nat)} {vs1 vs2 : List Nat} {wi wi1 wi2 : TI} {g g1 g2 : TG} {tt tt1 tt2 : TT} {te : TE} (hc : X.calm = true) (hN : X.N.Nodup) (hi : PI X t0 i0 wi) (ok : BlkOk X.N X.env.scope sc own) (hv : ∀ i ∈ vs1, i ∈ own.map (·.2)) (hv2 : ∀ i ∈ vs2, i ∈ vs1)
    (hg : Blk X sc fun Y => PG Y t0 g) (ht : Blk X sc fun Y => PTs Y f0 tt) (hi1 : Blk X sc fun Y => PI Y t1 i1 wi1) (hg1 : Blk X sc fun Y => PG Y t1 g1) (ht1 : Blk X sc fun Y => PTs Y f1 tt1)
    (hi2 : Blk X sc fun Y => PI Y t2 i2 wi2) (hg2 : Blk X sc fun Y => PG Y t2 g2) (ht2 : Blk X sc fun Y => PTs Y f2 tt2) (he : Blk X sc fun Y => PE Y elt te)
    (hs : ∀ x, foldedSetIterable i0 X.env x = pure x := by intro _; rfl) (hs1 : ∀ env x, foldedSetIterable i1 env x = pure x := by intro _ _; rfl) (hs2 : ∀ env x, foldedSetIterable i2 env x = pure x := by intro _ _; rfl) :
    PE X (.ListComp elt [⟨t0, i0, f0, 0⟩, ⟨t1, i1, f1, 0⟩, ⟨t2, i2, f2, 0⟩] sc pos) (tLc3 wi g tt wi1 g1 tt1 wi2 g2 tt2 te (own.map (·.2)) vs1 vs2) := by
  refine ⟨fun pins s σ H Q I h => ?_⟩
  rw [eval_ListComp]
  have hfree : ∀ y ∈ sc.names, y.2 = .free → ∃ c, X.env.cells.lookup y.1 = some c := fun y hy e => (ok.free y hy e).elim (fun k => I.ok.has _ (.inl k)) (fun k => I.ok.has _ (.inr k))
  refine wpAny_comprehension_free rfl hs (closure_ok hfree) ok.kind (fun y hy e => by rw [ok.uniq y hy, e]) (thn (hi.run pins s σ H _ I h) fun xv s1 hx => thn hx fun itv s2 h2 => ?_)
  obtain ⟨it, fp, tn, J, H2, e, I2, T, st2, f2', q⟩ := h2
  subst e
  refine wpAny_newObj_type (newEnv_comp ?_) (by show 0 ≤ sizeLine; decide)
  generalize hD : s2.heap.objs.size = D
  have hDn : H2 D = none := I2.hok.fresh (Nat.le_of_eq hD)
  obtain ⟨W, ⟨m0, w0⟩, turn⟩ := q D hDn
  generalize hs3 : ({ s2 with heap := s2.heap.push { cls := .type "list", data := .seq ([] : List Value).toArray } } : Shared) = s3
  have h3 : s3.heap = s2.heap.push { cls := .type "list", data := .seq ([] : List Value).toArray } := by rw [← hs3]
  have I3 : Inv X pins σ (upd H2 D (.lst [])) s3 := by
    rw [← hs3]
    refine I2.laid (t' := s2.toks) (fun b o e => Heap.get?_push_of_some _ e) (Nat.le_of_eq hD) ⟨Nat.zero_le _, [], 0, .nil, ?_⟩
    rw [← hD]; exact Heap.get?_push_size _ rfl
  have f3 : ∀ b ∈ fp, FpOk X pins (upd H2 D (.lst [])) b ∧ b < s3.heap.objs.size := fun b hb => by
    obtain ⟨o, e, _⟩ := T.obj _ _ st2 b hb
    have hlt : b < s2.heap.objs.size := Heap.lt_size e
    refine ⟨⟨?_, (f2' b hb).2⟩, by rw [h3, Heap.size_push]; exact Nat.lt_succ_of_lt hlt⟩
    rw [upd_ne (by rw [← hD]; exact Nat.ne_of_lt hlt)]; exact (f2' b hb).1
  have st3 : tn 0 s3.heap := T.keep _ _ _ st2 fun b _ o e => by rw [h3]; exact Heap.get?_push_of_some _ e
  have I4 := block_start I3 ok hN f3
  show codeAny _ _ (.compStart (.ListComp elt [⟨t0, i0, f0, 0⟩, ⟨t1, i1, f1, 0⟩, ⟨t2, i2, f2, 0⟩] sc pos) 0 (.ref it) (.ref D) (compEnvC sc (cellsFrom (s3.heap.objs.size + 1) sc.names (cloFrom X.env.cells sc.names [])) s3.heap.objs.size X.env)) (compPost (model X.prog X.w) X.A X.xe none (EP X pins σ Q) (.ref D) s3.heap.objs.size) { s3 with heap := pushCells (s3.heap.push { cls := .type "dict", data := .dict #[] }) sc.names }
  generalize hcl : cellsFrom (s3.heap.objs.size + 1) sc.names (cloFrom X.env.cells sc.names []) = cl at I4 ⊢
  have pg := hg s3 (upd H2 D (.lst [])) s3.heap.objs.size cl fp
  have pt := ht s3 (upd H2 D (.lst [])) s3.heap.objs.size cl fp
  have bd : ∀ it0, Bd (X.blk s3 (upd H2 D (.lst [])) sc (compEnvC sc cl s3.heap.objs.size X.env) fp) vs1 (tailO (e3 elt t0 i0 f0 t1 i1 f1 t2 i2 f2 sc pos) 0 i1 it0 (.ref D) (compEnvC sc cl s3.heap.objs.size X.env))
      (.compLoop (e3 elt t0 i0 f0 t1 i1 f1 t2 i2 f2 sc pos) 0 it0 (.ref D) (compEnvC sc cl s3.heap.objs.size X.env)) (tLvl wi1 g1 tt1 (tLvl wi2 g2 tt2 (tApp D te) vs2) vs1) := fun it0 =>
    bd_out (Y := X.blk s3 (upd H2 D (.lst [])) sc (compEnvC sc cl s3.heap.objs.size X.env) fp) rfl (.inl rfl) hc (fun _ _ z => z) (hs1 _) (hi1 _ _ _ _ _) (hg1 _ _ _ _ _) (ht1 _ _ _ _ _) (fun it => turn3_1)
      (fun it => bd_out (Y := X.blk s3 (upd H2 D (.lst [])) sc (compEnvC sc cl s3.heap.objs.size X.env) fp) rfl (.inr rfl) hc (fun _ _ z => z) (hs2 _) (hi2 _ _ _ _ _) (hg2 _ _ _ _ _) (ht2 _ _ _ _ _) (fun it => turn3_2)
        (fun it => bd_in (fun _ _ z => z) (he _ _ _ _ _)) (fun j hj => by cases hj)) hv2
  generalize hce : compEnvC sc cl s3.heap.objs.size X.env = ce at I4 pg pt bd ⊢
  have cL : ce.locals = s3.heap.objs.size := by subst hce; rfl
  generalize hH3 : upd H2 D (.lst []) = H3 at I3 I4 pg pt bd w0 f3
  have nfp : ∀ b ∈ fp, H3 b = none := fun b hb => (f3 b hb).1.1
  generalize hs4 : ({ s3 with heap := pushCells (s3.heap.push { cls := .type "dict", data := .dict #[] }) sc.names } : Shared) = s4 at I4 ⊢
  have st4 : tn 0 s4.heap := T.keep _ _ _ st3 fun b _ o e => by rw [← hs4]; exact pushCells_keeps _ _ _ _ (Heap.get?_push_of_some _ e)
  have stat : ∀ {σ' : L2.St} {H' : Hp} {s' : Shared}, Inv (X.blk s3 H3 sc ce fp) [] σ' H' s' → (∀ b ∈ fp, H' b = none) → ∀ b ∈ fp, FpOk (X.blk s3 H3 sc ce fp) [] H' b := fun {σ' H' s'} I' hn b hb =>
    ⟨hn b hb, (I'.ok.exf b hb).1, I'.ok.exfs b hb, .inl hb, fun x c e => (I'.ok.exf b hb).2 x c e, fun p hp => absurd (show p ∈ ([] : List (Addr × Obj)) ++ [] from hp) (by simp)⟩
  have loop : codeAny (model X.prog X.w) X.A (.compLoop (e3 elt t0 i0 f0 t1 i1 f1 t2 i2 f2 sc pos) 0 (.ref it) (.ref D) ce) (compPost (model X.prog X.w) X.A X.xe none (EP X pins σ Q) (.ref D) s3.heap.objs.size) s4 := by
    refine loop3 turn3_0 (fun n s' => ∃ i H', Inv (X.blk s3 H3 sc ce fp) [] (wipe σ (own.map (·.2))) H' s' ∧ tn i s'.heap ∧ (∀ b ∈ fp, H' b = none) ∧ W i n H') ?_ m0 ⟨0, H3, I4, st4, nfp, w0⟩
    rintro n s5 ⟨i, H5, I5, st5, n5, w5⟩
    rcases turn i n H5 w5 with ⟨stop, qq⟩ | ⟨go, N1, hN1, step⟩
    · refine thnF (T.done (X.blk s3 H3 sc ce fp) rfl rfl rfl hc i [] s5 _ H5 (fun _ _ => False) I5 (stat I5 n5) st5 stop) fun r s6 ⟨hr, I6⟩ => ?_
      subst hr
      have I7 : Inv X pins σ H5 s6 := I3.call' (ch := fp) I6.os I6.base I6.hok I6.bare fun b hb => let z := (f3 b hb).1.2; ⟨z.2.2.1, z.1, z.2.2.2.1, z.2.2.2.2⟩
      have nC : H5 s3.heap.objs.size = none := by
        have z : H5 ce.locals = none := I6.free
        rwa [cL] at z
      obtain ⟨m, hn, _⟩ := I6.loc
      have hn : s6.heap.Ns ce.locals m := hn
      rw [cL] at hn
      obtain ⟨u0, u1, u2, u3, u4, u5⟩ := I3.fpOk (Nat.le_refl _) nC
      exact ⟨m, hn, fun h'' sb => ⟨.ref D, H5, I7.turned (t' := s6.toks) (fun b o hb e => (sb.2 b hb).trans e) u0 u1 u3 u4 u5, rfl, qq⟩⟩
    · refine thnF (T.item (X.blk s3 H3 sc ce fp) rfl rfl rfl hc i [] s5 _ H5 (fun _ _ => False) I5 (stat I5 n5) st5 go) fun r s6 ⟨u, hr, h6⟩ => ?_
      subst hr
      refine thnF h6 fun _ s7 ⟨x, H7, I7, r7, y7, st7, n7⟩ => ?_
      have I7' := I7.pinned (stat I7 n7) (T.obj _ _ st7)
      refine thnF (pg.run _ s7 _ H7 x u _ I7' r7 (step x H7 y7)) fun _ s8 ⟨σ8, H8, I8, hw8, q8⟩ => ?_
      refine thnF (pt.run _ s8 σ8 H8 _ I8 q8) fun b s9 ⟨H9, I9, q9⟩ => ?_
      have fin : ∀ {s' : Shared} {H' : Hp} {σ' : L2.St}, Inv (X.blk s3 H3 sc ce fp) ([] ++ pinsAt fp s7.heap) σ' H' s' → σ'.length = σ8.length → (∀ (j : Nat) v, j ∉ vs1 → σ8[j]? = some (some v) → σ'[j]? = some (some v)) → N1 H' →
          ∃ m, m < n ∧ ∃ i H', Inv (X.blk s3 H3 sc ce fp) [] (wipe σ (own.map (·.2))) H' s' ∧ tn i s'.heap ∧ (∀ b ∈ fp, H' b = none) ∧ W i m H' := fun {s' H' σ'} I' hl hk nx => by
        obtain ⟨m', hm, w'⟩ := hN1 H' nx
        have pin' : ∀ b ∈ fp, ∀ o, s7.heap.get? b = some o → s'.heap.get? b = some o ∧ H' b = none := fun b hb o e =>
          let z := I'.pin (b, o) (List.mem_append_right _ (List.mem_append_right _ (mem_pinsAt hb e)))
          ⟨z.1, z.2.1⟩
        refine ⟨m', hm, i + 1, H', (I'.unpinned (pins := [])).weak (by rw [hl, ← hw8, wipe_length]) (fun j v e => ?_), T.keep _ _ _ st7 fun b hb o e => (pin' b hb o e).1, fun b hb => ?_, w'⟩
        · rw [← hw8] at e
          obtain ⟨z1, z2⟩ := wipe_some e
          exact hk j v (fun z => z2 (hv j z)) z1
        · obtain ⟨o, e, _⟩ := T.obj _ _ st7 b hb
          exact (pin' b hb o e).2
      cases b with
      | false =>
        simp only [Bool.false_eq_true, if_false] at q9 ⊢
        exact fin I9 rfl (fun _ _ _ q => q) q9
      | true =>
        simp only [if_true] at q9 ⊢
        refine thnF (bd (.ref it) _ s9 σ8 H9 N1 (fun _ _ => False) I9 q9) fun fn s10 h10 => ?_
        cases fn with
        | done f => exact (show False from h10).elim
        | again c' =>
          obtain ⟨e10, σ10, H10, I10, l10, k10, nx10⟩ := h10
          exact ⟨e10, fin I10 l10 k10 nx10⟩
  exact codeAny_compStart_list loop (T.self X.A 0 _ _ _ st4 loop)
end
end Kk

set_option maxHeartbeats 8000000
namespace Kk
open PySem PySem.Spec PyProof.Rows L2
/-- list.extend(tuple), whatever stands in them -/
def rExtT (K : PySem.W.Frag) : V → List V → Hp → VK → Prop := fun x vs H Q => ∃ l b xs zs, x = .ref l ∧ vs = [.ref b] ∧ H l = some (.lst xs) ∧ SqT K H b zs ∧ xs.length + zs.length ≤ sizeLine ∧ Q .non (upd H l (.lst (xs ++ zs)))
theorem ext_tup (l : Addr) (items : Array Value) (n : Nat) (b : Addr) (items2 : Array Value) (n2 : Nat) (od : Option Addr) (osl : Array (Option Value)) (h0 : ¬(!items.isEmpty && Builtin.List.listTooLong (items.size + items2.size)) = true) (h1 : items.size ≤ sizeLine) (h2 : items.size + items2.size ≤ sizeLine + 1) :
    Meets (Builtin.«list.extend» ⟨[.ref l, .ref b], []⟩) (fun _ R s => s.heap.get? l = some { cls := .type "list", dict := none, data := .seq items n, slots := #[] } ∧ s.heap.get? b = some ⟨.type "tuple", od, .seq items2 n2, osl⟩ ∧ R (.ok (.ret Value.none)) { s with heap := s.heap.update l (Obj.mapSeq fun x => x ++ items2), toks := s.toks }) :=
  .of_wp fun prog w A R s h => by
    obtain ⟨hp, g, d, tk, os⟩ := s
    obtain ⟨hl, hb, h⟩ := h
    have f1 := PySem.AutoSeq1.idx_int
    have f2 := PySem.AutoSeq1.sub_tuple_tuple
    have f3 := PySem.AutoSeq1.sub_list_list
    have f4 := PySem.AutoSeq1.sub_tuple_list
    have f5 := PySem.AutoSeq1.sub_list_tuple
    have hz' : (items ++ items2).size ≤ sizeLine + 1 := by rw [Array.size_append]; exact h2
    wp_walk using (wpAny_updateSeq hl rfl (hz := h1) (_hz' := hz')), PySem.AutoSeq1.wpAny_loadPart' hl, PySem.AutoSeq1.wpAny_loadPart' hb
    exact ⟨_, rfl, h⟩
theorem mt_extT {X : Cx} : MtM X "list.extend" (rExtT X.K) := by
  intro pins s σ H x vs v us Q I rx rv h
  obtain ⟨l, b, xs, zs, rfl, rfl, hH, hB, hz, q⟩ := h
  cases rx
  obtain ⟨u, rfl, ru⟩ := rv.one
  cases ru
  obtain ⟨z, its, n, r, hl, e⟩ := I.lstM hH
  obtain ⟨its2, r2, ⟨o, ho, hc, n2, hd⟩, hz2⟩ := I.tuple hB
  obtain ⟨oc, od, odt, osl⟩ := o
  simp only at hc hd
  subst hc; subst hd
  have l1 := r.length
  have l2 := r2.length
  have hsz : its.toArray.size + its2.toArray.size ≤ sizeLine := by rw [List.size_toArray, List.size_toArray]; omega
  have hlong : ¬ (!its.toArray.isEmpty && Builtin.List.listTooLong (its.toArray.size + its2.toArray.size)) = true := by
    rw [notLongL hsz, Bool.and_false]; exact Bool.false_ne_true
  refine call_meets PySem.F.slot_list_extend ⟨_, e, rfl⟩ PySem.F.entry_list_extend (PySem.F.args_list_extend_2 _ _)
    (ext_tup l its.toArray n b its2.toArray n2 od osl hlong (by rw [List.size_toArray]; omega) (by omega)) ⟨e, ho, ?_⟩
  refine ⟨.non, _, I.lset (its' := its ++ its2) hH e (by simp) (r.append r2) ?_, rfl, q⟩
  rw [List.length_append]; omega
end Kk

namespace Kk
open PySem PySem.Spec PyProof.Rows L2
/-! places: a text, then numbers -/
def plV (nm : Str) (p : List Nat) : List V := .str nm :: p.map fun n => V.int (n : Nat)
def plD (nm : Str) (p : List Nat) : PyData := .tuple (.str nm :: p.map fun n => PyData.int (n : Nat))
def plK (nm : Str) (p : List Nat) : List L2.Key := Sum.inr nm :: p.map fun n => Sum.inl ((n : Nat) : Int)
def plO (nm : Str) (p : List Nat) : List (Int ⊕ List Nat) := Sum.inr nm.cps.toList :: p.map fun n => Sum.inl ((n : Nat) : Int)
def leP (nm : Str) (p q : List Nat) : Prop := PyProof.Rows.lexLt PyProof.Rows.itemOrd (plO nm q) (plO nm p) = false
theorem plK_v (nm : Str) (p : List Nat) : (plK nm p).map kV = plV nm p := by
  unfold plK plV
  rw [List.map_cons, List.map_map]; rfl
theorem nat_map_inj {α : Type} {f : Nat → α} (hf : ∀ a b, f a = f b → a = b) : ∀ {p q : List Nat}, p.map f = q.map f → p = q
  | [], [], _ => rfl
  | [], _ :: _, h => by cases h
  | _ :: _, [], h => by cases h
  | a :: p, b :: q, h => by
    rw [List.map_cons, List.map_cons] at h
    obtain ⟨h1, h2⟩ := List.cons.inj h
    rw [hf a b h1, nat_map_inj hf h2]
theorem plK_inj {nm : Str} {p q : List Nat} (h : plK nm p = plK nm q) : p = q :=
  nat_map_inj (fun a b e => by have := Sum.inl.inj e; omega) (List.cons.inj h).2
theorem plO_inj {nm : Str} {p q : List Nat} (h : plO nm p = plO nm q) : p = q :=
  nat_map_inj (fun a b e => by have := Sum.inl.inj e; omega) (List.cons.inj h).2
theorem plD_inj {nm : Str} {p q : List Nat} (h : plD nm p = plD nm q) : p = q := by
  have h1 := PyData.tuple.inj h
  exact nat_map_inj (fun a b e => by have := PyData.int.inj e; omega) (List.cons.inj h1).2
theorem leP_anti {nm : Str} {p q : List Nat} (h : leP nm p q) (g : leP nm q p) : p = q :=
  plO_inj ((PyProof.Rows.listOrd PyProof.Rows.itemOrd).total _ _ g h)
theorem perm_uniq {α : Type} {R : α → α → Prop} (anti : ∀ a b, R a b → R b a → a = b) : ∀ {l m : List α}, l.Pairwise R → m.Pairwise R → l.Perm m → l = m
  | [], m, _, _, h => (List.Perm.eq_nil h.symm).symm
  | x :: l, [], _, _, h => absurd h.length_eq (by simp)
  | x :: l, y :: m, hl, hm, h => by
    have e : x = y := by
      rcases List.mem_cons.mp (h.mem_iff.mp (List.mem_cons_self (a := x) (l := l))) with e | hx
      · exact e
      · rcases List.mem_cons.mp (h.mem_iff.mpr (List.mem_cons_self (a := y) (l := m))) with e | hy
        · exact e.symm
        · exact anti x y (List.rel_of_pairwise_cons hl hy) (List.rel_of_pairwise_cons hm hx)
    subst e
    rw [perm_uniq anti (List.pairwise_cons.mp hl).2 (List.pairwise_cons.mp hm).2 h.cons_inv]
section
variable {K : PySem.W.Frag} {H : Hp}
theorem ints_inv : ∀ {xs : List V} {p : List Nat}, TpAll K H xs (p.map fun n => PyData.int (n : Nat)) → xs = p.map fun n => V.int (n : Nat)
  | _, [], h => by cases h; rfl
  | _, n :: p, h => by
    cases h with
    | cons a b => cases a; rw [ints_inv b]; rfl
theorem ints_all (p : List Nat) : TpAll K H (p.map fun n => V.int (n : Nat)) (p.map fun n => PyData.int (n : Nat)) := by
  induction p with
  | nil => exact .nil
  | cons n p ih => exact .cons (.int _) ih
theorem tp_pl {v : V} {nm : Str} {p : List Nat} (h : Tp K H v (plD nm p)) : ∃ a, v = .ref a ∧ SqT K H a (plV nm p) := by
  unfold plD at h
  cases h with
  | tup hs ha =>
    cases ha with
    | cons a1 a2 =>
      cases a1
      have e := ints_inv a2
      subst e
      exact ⟨_, rfl, hs⟩
theorem pl_tp {a : Addr} {nm : Str} {p : List Nat} (h : SqT K H a (plV nm p)) : Tp K H (.ref a) (plD nm p) := .tup h (.cons (.str _) (ints_all p))
end
/-! two lists, item by item -/
inductive P2 {α β : Type} (R : α → β → Prop) : List α → List β → Prop
  | nil : P2 R [] []
  | cons {a : α} {b : β} {l : List α} {m : List β} : R a b → P2 R l m → P2 R (a :: l) (b :: m)
theorem P2.perm {α β : Type} {R : α → β → Prop} {l l' : List α} (p : l.Perm l') : ∀ {m : List β}, P2 R l m → ∃ m', m.Perm m' ∧ P2 R l' m' := by
  induction p with
  | nil => intro m h; exact ⟨m, List.Perm.refl _, h⟩
  | cons x _ ih =>
    intro m h
    cases h with
    | cons a b =>
      obtain ⟨m', q, r⟩ := ih b
      exact ⟨_ :: m', q.cons _, .cons a r⟩
  | swap x y l =>
    intro m h
    cases h with
    | cons a b =>
      cases b with
      | cons c d => exact ⟨_, List.Perm.swap _ _ _, .cons c (.cons a d)⟩
  | trans _ _ ih1 ih2 =>
    intro m h
    obtain ⟨m1, q1, r1⟩ := ih1 h
    obtain ⟨m2, q2, r2⟩ := ih2 r1
    exact ⟨m2, q1.trans q2, r2⟩
theorem P2.get {α β : Type} {R : α → β → Prop} {l : List α} {m : List β} (h : P2 R l m) : ∀ {i : Nat} {b : β}, m[i]? = some b → ∃ a, l[i]? = some a ∧ R a b := by
  induction h with
  | nil => intro i b e; simp at e
  | cons a _ ih =>
    intro i b e
    cases i with
    | zero => cases e; exact ⟨_, rfl, a⟩
    | succ i => exact ih (i := i) (by simpa using e)
theorem P2.len {α β : Type} {R : α → β → Prop} {l : List α} {m : List β} (h : P2 R l m) : l.length = m.length := by
  induction h with
  | nil => rfl
  | cons _ _ ih => rw [List.length_cons, List.length_cons, ih]
section
variable {K : PySem.W.Frag} {H : Hp}
theorem P2.tp {nm : Str} : ∀ {us : List V} {ps : List (List Nat)}, P2 (fun v p => Tp K H v (plD nm p)) us ps → TpAll K H us (ps.map (plD nm))
  | _, _, .nil => .nil
  | _, _, .cons a b => .cons a (P2.tp b)
theorem tp_p2 {nm : Str} : ∀ {us : List V} {ps : List (List Nat)}, TpAll K H us (ps.map (plD nm)) → P2 (fun v p => Tp K H v (plD nm p)) us ps
  | _, [], h => by cases h; exact .nil
  | _, p :: ps, h => by
    cases h with
    | cons a b => exact .cons a (tp_p2 b)
end
/-- a place, tracked -/
def PlT (nm : Str) (H : Hp) (v : V) (p : List Nat) : Prop := ∃ a, v = .ref a ∧ H a = some (.tup (plV nm p))
theorem PlT.tp {K : PySem.W.Frag} {H : Hp} {nm : Str} {v : V} {p : List Nat} (h : PlT nm H v p) : Tp K H v (plD nm p) := by
  obtain ⟨a, rfl, h⟩ := h
  exact pl_tp (.of h)
theorem PlT.ex {xs : List Addr} {H H' : Hp} {nm : Str} {v : V} {p : List Nat} (h : PlT nm H v p) (e : Ex xs H H') : PlT nm H' v p := by
  obtain ⟨a, rfl, h⟩ := h
  exact ⟨a, rfl, e.tup h⟩
theorem P2.imp {α β : Type} {R S : α → β → Prop} {l : List α} {m : List β} (h : P2 R l m) (f : ∀ a b, R a b → S a b) : P2 S l m := by
  induction h with
  | nil => exact .nil
  | cons a _ ih => exact .cons (f _ _ a) ih
theorem P2.app {α β : Type} {R : α → β → Prop} {l l' : List α} {m m' : List β} (h : P2 R l m) (g : P2 R l' m') : P2 R (l ++ l') (m ++ m') := by
  induction h with
  | nil => exact g
  | cons a _ ih => exact .cons a ih
theorem P2.getL {α β : Type} {R : α → β → Prop} {l : List α} {m : List β} (h : P2 R l m) : ∀ {i : Nat} {a : α}, l[i]? = some a → ∃ b, m[i]? = some b ∧ R a b := by
  induction h with
  | nil => intro i b e; simp at e
  | cons a _ ih =>
    intro i b e
    cases i with
    | zero => cases e; exact ⟨_, rfl, a⟩
    | succ i => exact ih (i := i) (by simpa using e)
theorem P2.pls {K : PySem.W.Frag} {H : Hp} {nm : Str} {us : List V} {ps : List (List Nat)} (h : P2 (PlT nm H) us ps) : TpAll K H us (ps.map (plD nm)) := by
  induction h with
  | nil => exact .nil
  | cons a _ ih => exact .cons a.tp ih
def sh0 : Nat → Bool := fun i => i == 0
theorem sh_succ (i : Nat) : sh0 (i + 1) = false := rfl
theorem it_ints : ∀ (p : List Nat) (i : Nat) {its : List Value}, Vals (p.map fun n => V.int (n : Nat)) its → PyProof.Rows.tupItems sh0 (i + 1) its = some (p.map fun n => Sum.inl ((n : Nat) : Int))
  | [], i, _, h => by cases h; rfl
  | n :: p, i, _, h => by
    cases h with
    | cons a b =>
      obtain ⟨t, rfl⟩ := a
      unfold PyProof.Rows.tupItems
      rw [sh_succ, if_neg (by decide), it_ints p (i + 1) b]; rfl
theorem it_pl {nm : Str} {p : List Nat} {its : List Value} (h : Vals (plV nm p) its) : PyProof.Rows.tupItems sh0 0 its = some (plO nm p) := by
  unfold plV at h
  cases h with
  | cons a b =>
    obtain ⟨t, rfl⟩ := a
    unfold PyProof.Rows.tupItems
    rw [if_pos (show sh0 0 = true from rfl), it_ints p 0 b]; rfl
section
variable {X : Cx} {pins : List (Addr × Obj)} {σ : L2.St} {H : Hp} {s : Shared}
/-- what the sort sees of a place -/
theorem key_pl {u : Value} {nm : Str} {p : List Nat} (I : Inv X pins σ H s) (hT : PlT nm H (backV u) p) (hr : ∃ a, u = Value.ref a) :
    G.tupKeyC s.heap sh0 u = some (plO nm p) ∧ ∃ f, PyProof.Rows.TupOf s.heap sh0 u f := by
  obtain ⟨a, rfl⟩ := hr
  have h : Tp X.K H (backV (.ref a)) (plD nm p) := hT.tp
  obtain ⟨b, e, hs⟩ := tp_pl h
  cases e
  obtain ⟨its, r, ⟨o, ho, hc, n, hd⟩, hz⟩ := I.tuple hs
  refine ⟨?_, ?_⟩
  · unfold G.tupKeyC
    have e1 : G.isTupObj s.heap (.ref a) = true := by simp [G.isTupObj, ho, hc]
    rw [if_pos e1]
    simp only [PyProof.Rows.tupKey, ho, hd]
    exact it_pl r
  · unfold plV at r
    cases r with
    | cons r1 r2 =>
      obtain ⟨t, rfl⟩ := r1
      exact ⟨_, a, o, _, n, rfl, ho, hc, hd, rfl, fun z => (by cases z), fun _ => ⟨_, _, rfl⟩⟩
theorem tups_pl {nm : Str} (I : Inv X pins σ H s) : ∀ {us : List Value} {ps : List (List Nat)}, P2 (PlT nm H) (us.map backV) ps → (∀ u ∈ us, ∃ a, u = Value.ref a) → ∃ fs, PyProof.Rows.TupsOf s.heap sh0 us fs
  | [], _, _, _ => ⟨[], .nil⟩
  | u :: us, _, h, hr => by
    rw [List.map_cons] at h
    cases h with
    | cons a b =>
      obtain ⟨f, hf⟩ := (key_pl I a (hr u List.mem_cons_self)).2
      obtain ⟨fs, hfs⟩ := tups_pl I b fun v hv => hr v (List.mem_cons_of_mem _ hv)
      exact ⟨f :: fs, .cons hf hfs⟩
theorem P2.memL {α β : Type} {R : α → β → Prop} {l : List α} {m : List β} (h : P2 R l m) {a : α} (ha : a ∈ l) : ∃ b, b ∈ m ∧ R a b := by
  induction h with
  | nil => cases ha
  | cons r _ ih =>
    rcases List.mem_cons.mp ha with e | e
    · rw [e]; exact ⟨_, List.mem_cons_self, r⟩
    · obtain ⟨b, h1, h2⟩ := ih e
      exact ⟨b, List.mem_cons_of_mem _ h1, h2⟩
/-- what a sort of places tells -/
theorem srt_pl {nm : Str} {vs : List Value} {ps : List (List Nat)} {arr : Array Keyed} (I : Inv X pins σ H s) (h : P2 (PlT nm H) (vs.map backV) ps) (hr : ∀ u ∈ vs, ∃ a, u = Value.ref a)
    (hp : arr.Perm (pairsOf vs)) (hs : SortedToK (G.tupKindC s.heap sh0) arr (pairsOf vs).size) :
    ∃ qs, qs.Perm ps ∧ qs.Pairwise (leP nm) ∧ P2 (PlT nm H) ((arr.map (·.2)).toList.map backV) qs ∧ (∀ u ∈ (arr.map (·.2)).toList, ∃ a, u = Value.ref a) ∧ (arr.map (·.2)).toList.length = vs.length := by
  have pl : arr.toList.Perm (vs.zip vs) := by
    have e := Array.perm_iff_toList_perm.mp hp
    rwa [pairsOf_toList] at e
  have po : (arr.map (·.2)).toList.Perm vs := by
    rw [Array.toList_map]
    have z := pl.map Prod.snd
    rwa [List.map_snd_zip (Nat.le_refl _)] at z
  have hr2 : ∀ u ∈ (arr.map (·.2)).toList, ∃ a, u = Value.ref a := fun u hu => hr u (po.mem_iff.mp hu)
  obtain ⟨qs, q1, q2⟩ := P2.perm (po.symm.map backV) h
  refine ⟨qs, q1.symm, ?_, q2, hr2, po.length_eq⟩
  have hlen : qs.length = vs.length := by
    have := q2.len
    rw [List.length_map, po.length_eq] at this
    exact this.symm
  have key : ∀ (i : Nat) (q : List Nat), qs[i]? = some q → KK (G.tupKindC s.heap sh0) arr i = plO nm q := fun i q hq => by
    obtain ⟨v, hv, tv⟩ := q2.get hq
    rw [List.getElem?_map, Array.toList_map, List.getElem?_map, Array.getElem?_toList] at hv
    cases hk : arr[i]? with
    | none => rw [hk] at hv; cases hv
    | some kd =>
      rw [hk] at hv
      cases hv
      have hm : kd ∈ arr.toList := List.mem_of_getElem? (by rw [Array.getElem?_toList]; exact hk)
      obtain ⟨e1, e2⟩ := mem_zip_self (pl.mem_iff.mp hm)
      have tv : PlT nm H (backV kd.2) q := tv
      have := (key_pl I tv (by rw [← e1]; exact hr _ e2)).1
      unfold KK
      rw [hk]
      show (G.tupKeyC s.heap sh0 kd.1).getD _ = _
      rw [e1, this]; rfl
  rw [List.pairwise_iff_getElem]
  intro i j hi hj hij
  have := hs i j (Nat.le_of_lt hij) (by rw [pairsOf_size]; omega)
  rw [key i _ (List.getElem?_eq_getElem hi), key j _ (List.getElem?_eq_getElem hj)] at this
  exact this
end
section
variable {X : Cx}
/-- sorted(a list of places) -/
def rSortP (K : PySem.W.Frag) : List V → Hp → VK → Prop := fun vs H Q => ∃ (a : Addr) (us : List V) (nm : Str) (ps : List (List Nat)), vs = [V.ref a] ∧ SqL K H a us ∧ P2 (PlT nm H) us ps ∧
  ∀ (ys : List V) (qs : List (List Nat)) (p : Addr), qs.Perm ps → qs.Pairwise (leP nm) → P2 (PlT nm H) ys qs → H p = none → Q (.ref p) (upd H p (.lst ys))
theorem cr_sortP : CallR X (.builtin "sorted") (rSortP X.K) := by
  intro pins s σ H vs us Q I r h
  obtain ⟨a, xs, nm, ps, rfl, hs, ht, q⟩ := h
  obtain ⟨its, rv, hl, hz⟩ := I.list hs
  obtain ⟨u, rfl, ru⟩ := vals1 r
  obtain rfl : u = Value.ref a := ru
  have h2 := ht
  obtain ⟨e1, e2⟩ := refs_back rv fun x m => by
    obtain ⟨p, _, tp⟩ := h2.memL m
    obtain ⟨t, e, _⟩ := tp
    exact ⟨t, e⟩
  rw [e1] at h2
  obtain ⟨fs, hfs⟩ := tups_pl I h2 e2
  refine G.sorted_tups (shape := sh0) (fs := fs) hl.isList hfs (fun v hv => ?_) (by rw [← rv.length]; exact hz) fun st' hp hso _ => ?_
  · obtain ⟨p, _, tp⟩ := h2.memL (List.mem_map_of_mem (f := backV) hv)
    exact ⟨_, (key_pl I tp (e2 v hv)).1⟩
  · obtain ⟨qs, q1, q3, q4, q5, q6⟩ := srt_pl I h2 e2 hp hso
    obtain ⟨ep, he'⟩ := sortedAll_at s.heap its ((arrOf st').map (·.2))
    have hlen : (((arrOf st').map (·.2)).toList.map backV).length ≤ sizeLine := by
      rw [List.length_map, q6, ← rv.length]; exact hz
    refine ⟨.ref _, upd H (s.heap.objs.size + 1) (.lst (((arrOf st').map (·.2)).toList.map backV)), I.laid (t' := s.toks) (fun _ _ z => sortedAll_old z) (Nat.le_succ _) ⟨hlen, ((arrOf st').map (·.2)).toList, ep, vals_back q5, ?_⟩, rfl,
      q _ qs _ q1 q3 q4 (I.hok.fresh (Nat.le_succ _))⟩
    rw [Array.toArray_toList]; exact he'
/-- the keys of a dict of places -/
def KeysP (nm : Str) (kvs : List (List L2.Key × V)) (ps : List (List Nat)) : Prop := kvs.map (·.1) = ps.map (plK nm)
theorem p2_keys {nm : Str} {H : Hp} : ∀ {kvs : List (List L2.Key × V)} {ks : List (List L2.Key × Addr × Value)} {ps : List (List Nat)}, L2.KT H kvs ks → KeysP nm kvs ps → P2 (PlT nm H) ((ks.map fun x => Value.ref x.2.1).map backV) ps
  | [], _, ps, r, e => by
    cases r
    cases ps with
    | nil => exact .nil
    | cons _ _ => cases e
  | kv :: kvs, _, ps, r, e => by
    cases r with
    | cons h t =>
      cases ps with
      | nil => cases e
      | cons p ps =>
        unfold KeysP at e
        rw [List.map_cons, List.map_cons] at e
        obtain ⟨e1, e2⟩ := List.cons.inj e
        refine .cons ?_ (p2_keys t e2)
        have h2 := h.2.1
        rw [e1, plK_v] at h2
        exact ⟨_, rfl, h2⟩
/-- sorted(a dict of places) -/
def rSortDP : List V → Hp → VK → Prop := fun vs H Q => ∃ (a : Addr) (kvs : List (List L2.Key × V)) (nm : Str) (ps : List (List Nat)), vs = [V.ref a] ∧ H a = some (.dT kvs) ∧ KeysP nm kvs ps ∧
  ∀ (ys : List V) (qs : List (List Nat)) (p : Addr), qs.Perm ps → qs.Pairwise (leP nm) → P2 (PlT nm H) ys qs → H p = none → Q (.ref p) (upd H p (.lst ys))
theorem cr_sortDP (hcalm : X.calm = true) : CallR X (.builtin "sorted") rSortDP := by
  intro pins s σ H vs us Q I r h
  obtain ⟨d, kvs, nm, ps, rfl, hd, hk, q⟩ := h
  obtain ⟨u, rfl, ru⟩ := vals1 r
  obtain rfl : u = Value.ref d := ru
  obtain ⟨z, hs, ks, pr, o, es, ep, ho, hx, hdt, he, hn⟩ := (show ObjOk X.prog X.w H s.heap d (.dT kvs) from I.hok d _ hd)
  have l1 : es.size = ks.length := size_of_entries he
  have l2 : kvs.length = ks.length := Paired.length pr
  refine Calls.call_function_entry kind_sorted plain_sorted entry_sorted (args_sorted1 _) ?_
  unfold Builtin.«sorted»
  refine wpAny_bind (m := checkCount "sorted" 1 1 _) (wpAny_pure ?_)
  refine wpAny_bind (PySem.W.kdu_collect (A := X.A.in1) (kdl_raw hs hx hdt) (I.ok.hd hcalm) ho (by omega) fun h' tk acc kp it => ?_)
  have ea : acc.toList = ks.map fun x => Value.ref x.2.1 := by
    have hl : acc.toList.length = ks.length := by rw [Array.length_toList, it.1]; exact l1
    refine List.ext_getElem? fun j => ?_
    rw [List.getElem?_map]
    cases hj : acc.toList[j]? with
    | none =>
      have h1 := List.getElem?_eq_none_iff.mp hj
      rw [List.getElem?_eq_none (show ks.length ≤ j by omega)]; rfl
    | some v =>
      obtain ⟨en, hen, hv⟩ := it.2 j v (by rw [← Array.getElem?_toList]; exact hj)
      have qe := entry_at he j
      rw [hen] at qe
      cases hb : ks[j]? with
      | none => rw [hb] at qe; cases qe
      | some b =>
        rw [hb] at qe
        have e2 := Option.some.inj qe
        rw [hv, e2]; rfl
  have h2 : P2 (PlT nm H) (acc.toList.map backV) ps := by rw [ea]; exact p2_keys pr hk
  have e2 : ∀ u ∈ acc.toList, ∃ a, u = Value.ref a := fun u hu => by
    rw [ea] at hu
    obtain ⟨x, _, e⟩ := List.mem_map.mp hu
    exact ⟨_, e.symm⟩
  have hal : acc.toList.length ≤ sizeLine := by rw [ea, List.length_map]; omega
  have I1 : Inv X pins σ H { s with heap := h', toks := tk } := I.kept kp
  have I2 : Inv X pins σ H { s with heap := h'.push (seqObj "list" acc.toList.toArray 0), toks := tk } := I1.kept (t' := tk) fun b u e => Heap.get?_push_of_some _ e
  refine wpAny_bind (wpAny_newList ?_ hal)
  have hoL : (h'.push (seqObj "list" acc.toList.toArray 0)).get? h'.objs.size = some (seqObj "list" acc.toList.toArray 0) := Heap.get?_push_size _ rfl
  show wpAny _ _ _ _ _ { s with heap := h'.push (seqObj "list" acc.toList.toArray 0), toks := tk }
  obtain ⟨fs, hfs⟩ := tups_pl I2 h2 e2
  refine wpAny_bind (wpAny_holding (wpAny_call_entry slot_list_sort ⟨_, hoL, rfl⟩ entry_list_sort
    (G.list_sort_tups (s := { s with heap := h'.push (seqObj "list" acc.toList.toArray 0), toks := tk }) (shape := sh0) (fs := fs) hoL hfs (fun v hv => ?_) hal fun st' hp hso _ => ⟨_, rfl, ?_⟩) (args_list_sort _)))
  · obtain ⟨p, _, tp⟩ := h2.memL (List.mem_map_of_mem (f := backV) hv)
    exact ⟨_, (key_pl I2 tp (e2 v hv)).1⟩
  · obtain ⟨qs, q1, q3, q4, q5, q6⟩ := srt_pl I2 h2 e2 hp hso
    obtain ⟨e', he'⟩ := sortedHeap_at (vs := acc.toList) (out := (arrOf st').map (·.2)) hoL
    have hlen : (((arrOf st').map (·.2)).toList.map backV).length ≤ sizeLine := by
      rw [List.length_map, q6]; exact hal
    refine wpAny_pure ⟨_, rfl, .ref h'.objs.size, upd H h'.objs.size (.lst (((arrOf st').map (·.2)).toList.map backV)), I1.laid (t' := tk) (fun b u e => ?_) (Nat.le_refl _)
      (show ObjOk X.prog X.w _ _ _ (.lst (((arrOf st').map (·.2)).toList.map backV)) from ⟨hlen, ((arrOf st').map (·.2)).toList, e', vals_back q5, by rw [Array.toArray_toList]; exact he'⟩), rfl, q _ qs _ q1 q3 q4 (I1.hok.fresh (Nat.le_refl _))⟩
    have hb : b < h'.objs.size := Heap.lt_size e
    rw [sortedHeap_old (Nat.ne_of_lt hb) (by rw [size_push']; exact Nat.lt_succ_of_lt hb)]
    exact Heap.get?_push_of_some _ e
end
end Kk

set_option maxHeartbeats 4000000
namespace Kk
open PySem PySem.Spec PyProof.Rows L2
section
variable {P : Program} {w : World} {A : Around} {E : Value → Shared → Prop} {s : Shared} {a : Addr} {L : List Str} {n : Nat}
/-- set(xs), xs a tuple of texts -/
theorem set_of_strsT {l : Addr} {items : Array Value} {xs B : List Str} {Q : Value → Shared → Prop} (hh : A.handled = none) (hl : s.heap.IsTuple l items) (sz0 : xs.length = items.size)
    (val : ∀ (i : Nat) (v : Value), items[i]? = some v → ∃ x t, xs[i]? = some x ∧ v = .str x t) (hB : ∀ x ∈ xs, x ∈ B) (hB64 : B.length < 64)
    (fin : ∀ (h' : Heap) (tk n : Nat), SR w h' s.heap.objs.size xs n → (∀ b o, s.heap.get? b = some o → h'.get? b = some o) → Q (.ref s.heap.objs.size) { s with heap := h', toks := tk }) :
    wpAny (model P w) A (call (.type "set") [.ref l]) Q E s := by
  obtain ⟨c, tl, mro⟩ := PySem.F.called_set.mro
  have made := PySem.F.called_set.made
  have issub := PySem.F.called_set.sub
  refine wpAny_call (codeAny_of_tree ?_)
  show wpAny _ _ (callAny (.type "set") _) _ _ _
  refine wpAny_pure ⟨Code.quiet_builtin _ (by decide +kernel), codeAny_builtin PySem.F.entry_type_call ?_⟩
  rw [Around.under_plain (weight_type_call_type "set" [.ref l] []) rfl]
  have q1 := PySem.F.called_set.notType
  have q2 := PySem.F.called_set.canCreate
  have q3 := PySem.F.typeCall_set_1 (.ref l)
  repeat (any_goals (first | assumption | wp_step))
  refine codeAny_mono (code_set_led1 (.ref l) (E := E) (Q₁ := fun v z => v = .ref s.heap.objs.size ∧ z = { s with heap := s.heap.push { cls := .type "set", dict := none, data := .set #[] 0 (.fresh 0 0 (!w.params.followText "set-order")) } }) ⟨rfl, rfl⟩) fun r z hr => ?_
  cases r with
  | error e => exact hr
  | ok fl =>
    cases fl with
    | ret v =>
      obtain ⟨rfl, rfl⟩ := hr
      have atS : (s.heap.push (newSet w)).get? s.heap.objs.size = some (newSet w) := Heap.get?_push_size _ rfl
      have isS : Shared.TypeIs { s with heap := s.heap.push (newSet w) } (.ref s.heap.objs.size) "set" := ⟨_, atS, rfl⟩
      have ini := PySem.F.called_set.init.lookup
      have bnd := PySem.F.called_set.init.bind (.ref s.heap.objs.size)
      repeat (any_goals (first | assumption | wp_step))
      refine codeAny_mono (codeAny_call_builtin (R := wants (fun r z2 => r = .none ∧ ∃ h' tk n, z2 = { s with heap := h', toks := tk } ∧ SR w h' s.heap.objs.size xs n ∧ (∀ b o, s.heap.get? b = some o → h'.get? b = some o)) E)
        PySem.F.called_set.init.plain PySem.F.entry_set_init (check_set_init_1 isS ?_)) fun r2 z2 hr2 => ?_
      · obtain ⟨ol, hol, cl, nl, dl⟩ := hl
        obtain ⟨oc, od, odt, osl⟩ := ol
        simp only at cl dl
        subst cl; subst dl
        have hol2 : (s.heap.push (newSet w)).get? l = some { cls := .type "tuple", dict := od, data := .seq items nl, slots := osl } := Heap.get?_push_of_some _ hol
        have s1 := PySem.F.sub_tuple_set
        have s2 := PySem.F.sub_tuple_frozenset
        have s3 : (Value.type "tuple" == Value.type "dict") = false := by decide
        have isL : (s.heap.push (newSet w)).IsTuple l items := ⟨_, hol2, rfl, nl, rfl⟩
        unfold Builtin.«set.__init__» noKeywords Builtin.Frozenset.updateFrom
        generalize hold : pyIter = PI
        wp_walk
        subst hold
        refine wpAny_pyIter_tuple isL ?_
        refine wpAny_bind (wpAny_runValue ?_)
        have lt1 : l < s.heap.objs.size := Heap.lt_size hol
        have hh3 : A.in1.in1.in1.handled = none := by simp [hh]
        have neI : l ≠ (s.heap.push (newSet w)).objs.size := by rw [Heap.size_push]; exact Nat.ne_of_lt (Nat.lt_succ_of_lt lt1)
        have nS : s.heap.objs.size ∉ [(s.heap.push (newSet w)).objs.size, l] := by
          rw [Heap.size_push]; simp only [List.mem_cons, List.mem_singleton, List.not_mem_nil, or_false, not_or]
          exact ⟨Nat.ne_of_lt (Nat.lt_succ_self _), Nat.ne_of_gt lt1⟩
        refine sr_loop ((Walks.tuple hh3 _ l neI items).toS) s.heap.objs.size nS xs sz0 hB hB64 val (items.size - 0) 0 0 _ (by omega) (Nat.zero_le _)
          ⟨⟨_, Heap.get?_push_size _ rfl, rfl, rfl⟩, (isL.push _)⟩ ?z0 ?zR
        case z0 =>
          have f := sr_fresh (h := s.heap) w
          exact f.at fun o ho => Heap.get?_push_of_some _ ho
        case zR =>
          intro z' n' mv hS'
          obtain ⟨h', g', d', tk', os'⟩ := z'
          have eg : g' = s.gens := mv.gens
          have ed : d' = s.drawn := mv.drawn
          have eo' : os' = s.os := mv.os
          subst eg; subst ed; subst eo'
          show wpAny _ _ _ _ _ _
          refine wpAny_pure ?_
          show wpAny _ _ (ret Value.none) _ _ _
          refine wpAny_pure ⟨rfl, h', tk', n', rfl, hS', fun b o e => ?_⟩
          have lb := Heap.lt_size e
          have n1 : b ≠ s.heap.objs.size := Nat.ne_of_lt lb
          have n2 : b ≠ (s.heap.push (newSet w)).objs.size := by rw [Heap.size_push]; exact Nat.ne_of_lt (Nat.lt_succ_of_lt lb)
          exact mv.heap b o (by simp only [List.mem_cons, List.mem_singleton, List.not_mem_nil, or_false, not_or]; exact ⟨n1, n2⟩) (Heap.get?_push_of_some _ (Heap.get?_push_of_some _ e))
      · cases r2 with
        | error e => exact hr2
        | ok fl2 =>
          cases fl2 with
          | ret r =>
            obtain ⟨rfl, h', tk, n', rfl, hS', kp⟩ := hr2
            repeat (any_goals (first | assumption | wp_step))
            exact fin _ _ _ hS' kp
          | _ => exact hr2.elim
    | _ => exact hr.elim
end
section
variable {X : Cx}
def rSetT (K : PySem.W.Frag) (w : World) : List V → Hp → VK → Prop := fun vs H Q => ∃ (l : Addr) (xs : List Str), vs = [.ref l] ∧ SqT K H l (xs.map V.str) ∧ xs.length < 64 ∧ ∀ p, H p = none → Q (.ref p) (upd H p (SetS w p xs))
theorem call_setT (hc : X.calm = true) : CallR X (.type "set") (rSetT X.K X.w) := by
  intro pins s σ H vs us Q I r h
  obtain ⟨l, xs, rfl, hl, hB64, q⟩ := h
  rw [Vals.ref1 r]
  obtain ⟨its, rv, pl, hz⟩ := I.tuple hl
  have fr : H s.heap.objs.size = none := I.hok.fresh (Nat.le_refl _)
  have hlen : xs.length = its.toArray.size := by
    have := rv.length
    rw [List.length_map] at this
    simpa using this
  refine set_of_strsT (P := X.prog) (w := X.w) (B := xs) (I.ok.hd hc) pl hlen (fun i v hv => ?_) (fun _ h => h) hB64 fun h' tk n R kp => ?_
  · have hv2 : its[i]? = some v := by simpa using hv
    have hi : i < xs.length := by rw [hlen]; simpa using (List.getElem?_eq_some_iff.mp hv2).1
    have hx : (xs.map V.str)[i]? = some (.str xs[i]) := by rw [List.getElem?_map, List.getElem?_eq_getElem hi]; rfl
    obtain ⟨u, hu, ru⟩ := rv.get hx
    rw [hv2] at hu; cases hu
    obtain ⟨t, e⟩ := (show ∃ t, v = Value.str xs[i] t from ru)
    exact ⟨xs[i], t, List.getElem?_eq_getElem hi, e⟩
  · exact ⟨.ref s.heap.objs.size, upd H s.heap.objs.size (SetS X.w s.heap.objs.size xs), I.laid (t' := tk) kp (Nat.le_refl _) (setS_ok R), rfl, q _ fr⟩
/-- as many as are unlike -/
theorem nodup_len {M L : List Str} (nd : M.Nodup) (hm : ∀ k, k ∈ L ↔ k ∈ M) : M.length ≤ L.length ∧ (M.length = L.length ↔ L.Nodup) := by
  have h1 : M.length ≤ L.length := sub_len M L nd fun x hx => (hm x).mpr hx
  refine ⟨h1, fun e => ?_, fun h => Nat.le_antisymm h1 (sub_len L M h fun x hx => (hm x).mp hx)⟩
  clear h1
  induction L generalizing M with
  | nil => exact List.nodup_nil
  | cons x L ih =>
    have hx : x ∈ M := (hm x).mp List.mem_cons_self
    have le : (M.erase x).length = L.length := by
      rw [List.length_erase_of_mem hx, e, List.length_cons]; rfl
    have nx : x ∉ L := fun hxL => by
      have q := sub_len M L nd fun y hy => by
        rcases List.mem_cons.mp ((hm y).mpr hy) with z | z
        · rw [z]; exact hxL
        · exact z
      rw [e, List.length_cons] at q; omega
    refine List.nodup_cons.mpr ⟨nx, ih (nd.erase x) (fun k => ?_) le⟩
    constructor
    · intro hk
      have ne : k ≠ x := fun z => nx (z ▸ hk)
      exact (List.mem_erase_of_ne ne).mpr ((hm k).mp (List.mem_cons_of_mem _ hk))
    · intro hk
      have ne : k ≠ x := fun z => by
        rw [z] at hk
        exact nd.not_mem_erase hk
      rcases List.mem_cons.mp ((hm k).mpr (List.mem_of_mem_erase hk)) with z | z
      · exact absurd z ne
      · exact z
def rLenSetS (w : World) : List V → Hp → VK → Prop := fun vs H Q => ∃ (a : Addr) (L : List Str), vs = [.ref a] ∧ H a = some (SetS w a L) ∧ L.length < 64 ∧ ∀ n : Nat, (n = L.length ↔ L.Nodup) → Q (.int n) H
theorem call_lenSetS : CallR X (.builtin "len") (rLenSetS X.w) := by
  intro pins s σ H vs us Q I r h
  obtain ⟨a, L, rfl, ha, h64, q⟩ := h
  obtain ⟨n, R⟩ := (I.hok a _ ha).1
  rw [Vals.ref1 r]
  obtain ⟨o, es, ep, t, ho, hex, hd, g, nd, hm, hb, hf, hn, hr, hl⟩ := R
  obtain ⟨l1, l2⟩ := nodup_len nd hm
  have el : (es.toList.map kS).length = es.size := by rw [List.length_map, Array.length_toList]
  rw [el] at l1 l2
  refine call_len_set ho hex hd hf (by have : es.size < 64 := Nat.lt_of_le_of_lt l1 h64; omega) ⟨.int es.size, H, I.tok _, ⟨_, rfl⟩, q es.size l2⟩
end
end Kk

set_option maxHeartbeats 4000000
/-! {k: v for .. in .. for .. in ..} -/
namespace Kk
open PySem PySem.Spec PyProof.Rows L2
abbrev tailD (e : Expr) (k : Nat) (kx vx : Expr) (it : Value) (D : Addr) (env : Env) : Sem Fin := do
  (do
    let kv ← eval kx env
    let vv ← holding [kv] (eval vx env)
    standAt { kx.pos with endLine := vx.pos.endLine, endCol := vx.pos.endCol }
    holding [kv, vv] (dictSet D kv vv))
  again (.compLoop e k it (.ref D) env)
abbrev e2d (kx vx t0 i0 : Expr) (f0 : List Expr) (t1 i1 : Expr) (f1 : List Expr) (sc : Scope) (pos : Pos) : Expr := .DictComp kx vx [⟨t0, i0, f0, 0⟩, ⟨t1, i1, f1, 0⟩] sc pos
section
variable {kx vx t0 i0 t1 i1 : Expr} {f0 f1 : List Expr} {sc : Scope} {pos : Pos} {it acc : Value} {D : Addr} {env : Env}
theorem turn2d_0 : compTurn (e2d kx vx t0 i0 f0 t1 i1 f1 sc pos) 0 it acc env = turnOf (e2d kx vx t0 i0 f0 t1 i1 f1 sc pos) 0 i0.pos t0 f0 (tailO (e2d kx vx t0 i0 f0 t1 i1 f1 sc pos) 0 i1 it acc env) it acc env := by rfl
theorem turn2d_1 : compTurn (e2d kx vx t0 i0 f0 t1 i1 f1 sc pos) 1 it (.ref D) env = turnOf (e2d kx vx t0 i0 f0 t1 i1 f1 sc pos) 1 i1.pos t1 f1 (tailD (e2d kx vx t0 i0 f0 t1 i1 f1 sc pos) 1 kx vx it D env) it (.ref D) env := by rfl
end
section
variable {prog : Program} {w : World} {A : Around} {R : Result → Shared → Prop} {s : Shared}
theorem loop2d {kx vx t0 i0 t1 i1 : Expr} {f0 f1 : List Expr} {sc : Scope} {pos : Pos} {it acc : Value} {env : Env} {k : Nat} {p : Pos} {tg : Expr} {fs : List Expr} {tail : Sem Fin}
    (ht : compTurn (e2d kx vx t0 i0 f0 t1 i1 f1 sc pos) k it acc env = turnOf (e2d kx vx t0 i0 f0 t1 i1 f1 sc pos) k p tg fs tail it acc env) (I : Nat → Shared → Prop)
    (turn : ∀ n s, I n s → wpAny (model prog w) A (pyNext it) (fun r s1 => match r with
      | none => R (.ok .next) s1
      | some v => wpAny (model prog w) A (letOwnedTupleGo tg it v) (fun _ s2 => wpAny (model prog w) A (assign tg env v) (fun _ s3 => wpAny (model prog w) A (ifsOk fs env) (fun ok s4 =>
          if ok = true then wpAny (model prog w) A tail (to_ R (.compLoop (e2d kx vx t0 i0 f0 t1 i1 f1 sc pos) k it acc env) fun s' => ∃ m, m < n ∧ I m s') (nb prog w A env R) s4
          else ∃ m, m < n ∧ I m s4) (nb prog w A env R) s3) (nb prog w A env R) s2) (nb prog w A env R) s1) (nb prog w A env R) s)
    (n : Nat) (h : I n s) : codeAny (model prog w) A (.compLoop (e2d kx vx t0 i0 f0 t1 i1 f1 sc pos) k it acc env) R s :=
  clause_loop rfl rfl rfl ht I turn n h
theorem start2d {kx vx t0 i0 t1 i1 : Expr} {f0 f1 : List Expr} {sc : Scope} {pos : Pos} {it acc : Value} {env : Env} {k : Nat} (hk : k = 1)
    (h0 : codeAny (model prog w) A (.compLoop (e2d kx vx t0 i0 f0 t1 i1 f1 sc pos) k it acc env) R s)
    (h : wpAny (model prog w) A (pyIter it) (fun j s' => codeAny (model prog w) A (.compLoop (e2d kx vx t0 i0 f0 t1 i1 f1 sc pos) k j acc env) R s') (nb prog w A env R) s) :
    codeAny (model prog w) A (.compStart (e2d kx vx t0 i0 f0 t1 i1 f1 sc pos) k it acc env) R s := by
  refine codeAny_of_tree ?_
  show wpAny _ _ ((compStart (e2d kx vx t0 i0 f0 t1 i1 f1 sc pos) k it acc env).onRaise (fun x => do noteFrame x env; standAt theWindowsPlace)) _ _ s
  refine wpAny_notedAt ?_
  subst hk
  all_goals
    unfold compStart
    show wpAny _ _ (ask >>= _) _ _ s
    refine wpAny_bind (wpAny_askSetting (wpAny_ite ?_))
    split
    · first
        | exact wpAny_bind (wpAny_pure (wpAny_pure (And.intro rfl h0)))
        | exact wpAny_pure (And.intro rfl h0)
    · refine wpAny_bind (wpAny_rule ?_)
      first
        | exact wpAny_bind (wpAny_standAt (wpAny_bind (wpAny_mono h (fun j s' h' => wpAny_pure (And.intro rfl h')) fun _ _ x => x)))
        | (show wpAny _ _ (standAt _ >>= _) _ _ s; exact wpAny_bind (wpAny_standAt (wpAny_bind (wpAny_mono h (fun j s' h' => wpAny_pure (And.intro rfl h')) fun _ _ x => x))))
end
def tPut (D : Addr) (tk tv : TE) : L2.St → Hp → (Hp → Prop) → Prop := fun σ H Nx => tk σ H fun y H4 => tv σ H4 fun z H5 => ∃ kvs k, y = kV k ∧ H5 D = some (.dK kvs) ∧ kvs.length < sizeLine ∧ Nx (upd H5 D (.dK (putK kvs k z)))
section
variable {Y : Cx} {kx vx t0 i0 t1 i1 : Expr} {f0 f1 : List Expr} {sc : Scope} {pos : Pos} {D : Addr}
theorem bd_inD {e : Expr} {k : Nat} {tk tv : TE} {it : Value} (hx : ∀ v s, ¬ Y.xe v s) (pk : PE Y kx tk) (pe : PE Y vx tv) : Bd Y [] (tailD e k kx vx it D Y.env) (.compLoop e k it (.ref D) Y.env) (tPut D tk tv) := by
  intro pins s σ H Nx R I h
  have thx : ∀ {α : Type} {t : Sem α} {Q Q' : α → Shared → Prop} {E' : Value → Shared → Prop} {s : Shared}, wpAny (model Y.prog Y.w) Y.A t Q Y.xe s → (∀ a s, Q a s → Q' a s) → wpAny (model Y.prog Y.w) Y.A t Q' E' s :=
    fun h q => wpAny_mono h q fun v s z => (hx v s z).elim
  refine wpAny_bind (wpAny_bind (thx (pk.run pins s σ H _ I h) fun v s1 ⟨yk, H1, I1, r1, q1⟩ => ?_))
  refine wpAny_bind (wpAny_holding (thx (pe.run pins s1 σ H1 _ I1 q1) fun v2 s2 ⟨yv, H2, I2, r2, kvs, k0, ek, hD, hz, nx⟩ => ?_))
  subst ek
  exact wpAny_bind (wpAny_standAt (wpAny_holding (d_dictSet I2 hD hz r1 r2 fun s3 I3 => wpAny_pure ⟨rfl, σ, _, I3, rfl, fun _ _ _ q => q, nx⟩)))
theorem bd_outD {k1 : Nat} {p : Pos} {j1 tg : Expr} {fs : List Expr} {tl : Value → Sem Fin} {wi : TI} {g : TG} {tt : TT} {tb : L2.St → Hp → (Hp → Prop) → Prop} {vs1 vs2 : List Nat} {k : Nat} {it0 : Value}
    (ek : k1 = k + 1) (hk : k1 = 1) (hc : Y.calm = true) (hx : ∀ v s, ¬ Y.xe v s) (hs : ∀ x, foldedSetIterable j1 Y.env x = pure x) (pi : PI Y tg j1 wi) (pg : PG Y tg g) (pt : PTs Y fs tt)
    (ht : ∀ it, compTurn (e2d kx vx t0 i0 f0 t1 i1 f1 sc pos) k1 it (.ref D) Y.env = turnOf (e2d kx vx t0 i0 f0 t1 i1 f1 sc pos) k1 p tg fs (tl it) it (.ref D) Y.env)
    (bd : ∀ it, Bd Y vs2 (tl it) (.compLoop (e2d kx vx t0 i0 f0 t1 i1 f1 sc pos) k1 it (.ref D) Y.env) tb) (sub : ∀ j ∈ vs2, j ∈ vs1) :
    Bd Y vs1 (tailO (e2d kx vx t0 i0 f0 t1 i1 f1 sc pos) k j1 it0 (.ref D) Y.env) (.compLoop (e2d kx vx t0 i0 f0 t1 i1 f1 sc pos) k it0 (.ref D) Y.env) (tLvl wi g tt tb vs1) := by
  intro pins s σ H Nx R I h
  subst ek
  have thx : ∀ {α : Type} {t : Sem α} {Q Q' : α → Shared → Prop} {E' : Value → Shared → Prop} {s : Shared}, wpAny (model Y.prog Y.w) Y.A t Q Y.xe s → (∀ a s, Q a s → Q' a s) → wpAny (model Y.prog Y.w) Y.A t Q' E' s :=
    fun h q => wpAny_mono h q fun v s z => (hx v s z).elim
  refine tailO_ok hs (thx (pi.run pins s σ H _ I h) fun xv s1 hx1 => thx hx1 fun itv s2 h2 => ?_)
  obtain ⟨it, fp, tn, J, H2, e1, I2, T, st2, f2', W, ⟨m0, w0⟩, turn⟩ := h2
  subst e1
  have stat : ∀ {H' : Hp}, (∀ b ∈ fp, H' b = none) → ∀ b ∈ fp, FpOk Y pins H' b := fun hn b hb => ⟨hn b hb, (f2' b hb).2⟩
  have loop : codeAny (model Y.prog Y.w) Y.A (.compLoop (e2d kx vx t0 i0 f0 t1 i1 f1 sc pos) (k + 1) (.ref it) (.ref D) Y.env) (fun r s' => match r with
      | .ok _ => ∃ σ' H', Inv Y pins σ' H' s' ∧ σ'.length = σ.length ∧ (∀ (j : Nat) v, j ∉ vs1 → σ[j]? = some (some v) → σ'[j]? = some (some v)) ∧ Nx H'
      | .error _ => False) s2 := by
    refine loop2d (ht (.ref it)) (fun n s' => ∃ i H', Inv Y pins (wipe σ vs1) H' s' ∧ tn i s'.heap ∧ (∀ b ∈ fp, H' b = none) ∧ W i n H') ?_ m0 ⟨0, H2, I2.weak (wipe_length _ _) (fun j v e => (wipe_some e).1), st2, fun b hb => (f2' b hb).1, w0⟩
    rintro n s3 ⟨i, H3, I3, st3, n3, w3⟩
    rcases turn i n H3 w3 with ⟨stop, nx⟩ | ⟨go, N1, hN1, step⟩
    · refine thnF (T.done Y rfl rfl rfl hc i _ s3 (wipe σ vs1) H3 (fun _ _ => False) I3 (stat n3) st3 stop) fun r s4 ⟨hr, I4⟩ => ?_
      subst hr
      exact ⟨_, H3, I4, wipe_length _ _, fun j v nj e => by rw [wipe_out nj]; exact e, nx⟩
    · refine thnF (T.item Y rfl rfl rfl hc i _ s3 (wipe σ vs1) H3 (fun _ _ => False) I3 (stat n3) st3 go) fun r s4 ⟨u, hr, h4⟩ => ?_
      subst hr
      refine thnF h4 fun _ s5 ⟨x, H5, I5, r5, y5, st5, n5⟩ => ?_
      have I5' := I5.pinned (stat n5) (T.obj _ _ st5)
      refine thx (pg.run _ s5 (wipe σ vs1) H5 x u _ I5' r5 (step x H5 y5)) fun _ s6 ⟨σ6, H6, I6, hw6, q6⟩ => ?_
      refine thx (pt.run _ s6 σ6 H6 _ I6 q6) fun b s7 ⟨H7, I7, q7⟩ => ?_
      have fin : ∀ {s' : Shared} {H' : Hp} {σ' : L2.St}, Inv Y (pins ++ pinsAt fp s5.heap) σ' H' s' → σ'.length = σ6.length → (∀ (j : Nat) v, j ∉ vs2 → σ6[j]? = some (some v) → σ'[j]? = some (some v)) → N1 H' →
          ∃ m, m < n ∧ ∃ i H', Inv Y pins (wipe σ vs1) H' s' ∧ tn i s'.heap ∧ (∀ b ∈ fp, H' b = none) ∧ W i m H' := fun {s' H' σ'} I' hl hk nx => by
        obtain ⟨m', hm, w'⟩ := hN1 H' nx
        have pin' : ∀ b ∈ fp, ∀ o, s5.heap.get? b = some o → s'.heap.get? b = some o ∧ H' b = none := fun b hb o e =>
          let z := I'.pin (b, o) (List.mem_append_right _ (List.mem_append_right _ (mem_pinsAt hb e)))
          ⟨z.1, z.2.1⟩
        refine ⟨m', hm, i + 1, H', I'.unpinned.weak (by rw [hl, ← hw6, wipe_length]) (fun j v e => ?_), T.keep _ _ _ st5 fun b hb o e => (pin' b hb o e).1, fun b hb => ?_, w'⟩
        · rw [← hw6] at e
          obtain ⟨z1, z2⟩ := wipe_some e
          exact hk j v (fun z => z2 (sub j z)) z1
        · obtain ⟨o, e, _⟩ := T.obj _ _ st5 b hb
          exact (pin' b hb o e).2
      cases b with
      | false =>
        simp only [Bool.false_eq_true, if_false] at q7 ⊢
        exact fin I7 rfl (fun _ _ _ q => q) q7
      | true =>
        simp only [if_true] at q7 ⊢
        refine thnF (bd (.ref it) _ s7 σ6 H7 N1 (fun _ _ => False) I7 q7) fun fn s8 h8 => ?_
        cases fn with
        | done f => exact (show False from h8).elim
        | again c' =>
          obtain ⟨e8, σ8, H8, I8, l8, k8, nx8⟩ := h8
          exact ⟨e8, fin I8 l8 k8 nx8⟩
  exact start2d hk loop (T.self Y.A 0 _ _ _ st2 loop)
end
section
variable {X : Cx} {kx vx t0 i0 t1 i1 : Expr} {f0 f1 : List Expr} {sc : Scope} {pos : Pos}
def tDc2 (wi : TI) (g : TG) (tt : TT) (wi1 : TI) (g1 : TG) (tt1 : TT) (tk tv : TE) (vs vs1 : List Nat) : TE := fun σ H Q => wi σ H fun J H1 => ∀ D, H1 D = none → ∃ W : Nat → Nat → Hp → Prop, (∃ m, W 0 m (upd H1 D (.dK []))) ∧ ∀ i m H, W i m H →
  (J.stop i H ∧ Q (.ref D) H) ∨ (J.go i H ∧ ∃ N1 : Hp → Prop, (∀ H', N1 H' → ∃ m', m' < m ∧ W (i + 1) m' H') ∧ ∀ x H', J.yld i H x H' → g x (wipe σ vs) H' fun σ2 H2 => wipe σ2 vs = wipe σ vs ∧ tt σ2 H2 fun b H3 =>
    if b = true then tLvl wi1 g1 tt1 (tPut D tk tv) vs1 σ2 H3 N1 else N1 H3)
theorem pe_dc2 {own : List (Str × Nat)} {vs1 : List Nat} {wi wi1 : TI} {g g1 : TG} {tt tt1 : TT} {tk tv : TE} (hc : X.calm = true) (hN : X.N.Nodup) (hi : PI X t0 i0 wi) (ok : BlkOk X.N X.env.scope sc own) (hv : ∀ i ∈ vs1, i ∈ own.map (·.2))
    (hg : Blk X sc fun Y => PG Y t0 g) (ht : Blk X sc fun Y => PTs Y f0 tt) (hi1 : Blk X sc fun Y => PI Y t1 i1 wi1) (hg1 : Blk X sc fun Y => PG Y t1 g1) (ht1 : Blk X sc fun Y => PTs Y f1 tt1)
    (hk : Blk X sc fun Y => PE Y kx tk) (he : Blk X sc fun Y => PE Y vx tv)
    (hs : ∀ x, foldedSetIterable i0 X.env x = pure x := by intro _; rfl) (hs1 : ∀ env x, foldedSetIterable i1 env x = pure x := by intro _ _; rfl) :
    PE X (.DictComp kx vx [⟨t0, i0, f0, 0⟩, ⟨t1, i1, f1, 0⟩] sc pos) (tDc2 wi g tt wi1 g1 tt1 tk tv (own.map (·.2)) vs1) := by
  refine ⟨fun pins s σ H Q I h => ?_⟩
  rw [arm_eval_DictComp]
  have hfree : ∀ y ∈ sc.names, y.2 = .free → ∃ c, X.env.cells.lookup y.1 = some c := fun y hy e => (ok.free y hy e).elim (fun k => I.ok.has _ (.inl k)) (fun k => I.ok.has _ (.inr k))
  refine wpAny_comprehension_free rfl hs (closure_ok hfree) ok.kind (fun y hy e => by rw [ok.uniq y hy, e]) (thn (hi.run pins s σ H _ I h) fun xv s1 hx => thn hx fun itv s2 h2 => ?_)
  obtain ⟨it, fp, tn, J, H2, e, I2, T, st2, f2', q⟩ := h2
  subst e
  refine wpAny_newObj_type (newEnv_comp ?_)
  generalize hD : s2.heap.objs.size = D
  have hDn : H2 D = none := I2.hok.fresh (Nat.le_of_eq hD)
  obtain ⟨W, ⟨m0, w0⟩, turn⟩ := q D hDn
  generalize hs3 : ({ s2 with heap := s2.heap.push { cls := .type "dict", data := .dict #[] } } : Shared) = s3
  have h3 : s3.heap = s2.heap.push { cls := .type "dict", data := .dict #[] } := by rw [← hs3]
  have I3 : Inv X pins σ (upd H2 D (.dK [])) s3 := by
    rw [← hs3]
    refine I2.laid (t' := s2.toks) (fun b o e => Heap.get?_push_of_some _ e) (Nat.le_of_eq hD) ?_
    rw [← hD]
    exact dk_empty s2.heap I2.big
  have f3 : ∀ b ∈ fp, FpOk X pins (upd H2 D (.dK [])) b ∧ b < s3.heap.objs.size := fun b hb => by
    obtain ⟨o, e, _⟩ := T.obj _ _ st2 b hb
    have hlt : b < s2.heap.objs.size := Heap.lt_size e
    refine ⟨⟨?_, (f2' b hb).2⟩, by rw [h3, Heap.size_push]; exact Nat.lt_succ_of_lt hlt⟩
    rw [upd_ne (by rw [← hD]; exact Nat.ne_of_lt hlt)]; exact (f2' b hb).1
  have st3 : tn 0 s3.heap := T.keep _ _ _ st2 fun b _ o e => by rw [h3]; exact Heap.get?_push_of_some _ e
  have I4 := block_start I3 ok hN f3
  show codeAny _ _ (.compStart (.DictComp kx vx [⟨t0, i0, f0, 0⟩, ⟨t1, i1, f1, 0⟩] sc pos) 0 (.ref it) (.ref D) (compEnvC sc (cellsFrom (s3.heap.objs.size + 1) sc.names (cloFrom X.env.cells sc.names [])) s3.heap.objs.size X.env)) (compPost (model X.prog X.w) X.A X.xe none (EP X pins σ Q) (.ref D) s3.heap.objs.size) { s3 with heap := pushCells (s3.heap.push { cls := .type "dict", data := .dict #[] }) sc.names }
  generalize hcl : cellsFrom (s3.heap.objs.size + 1) sc.names (cloFrom X.env.cells sc.names []) = cl at I4 ⊢
  have pg := hg s3 (upd H2 D (.dK [])) s3.heap.objs.size cl fp
  have pt := ht s3 (upd H2 D (.dK [])) s3.heap.objs.size cl fp
  have bd : ∀ it0, Bd (X.blk s3 (upd H2 D (.dK [])) sc (compEnvC sc cl s3.heap.objs.size X.env) fp) vs1 (tailO (e2d kx vx t0 i0 f0 t1 i1 f1 sc pos) 0 i1 it0 (.ref D) (compEnvC sc cl s3.heap.objs.size X.env))
      (.compLoop (e2d kx vx t0 i0 f0 t1 i1 f1 sc pos) 0 it0 (.ref D) (compEnvC sc cl s3.heap.objs.size X.env)) (tLvl wi1 g1 tt1 (tPut D tk tv) vs1) := fun it0 =>
    bd_outD (Y := X.blk s3 (upd H2 D (.dK [])) sc (compEnvC sc cl s3.heap.objs.size X.env) fp) rfl rfl hc (fun _ _ z => z) (hs1 _) (hi1 _ _ _ _ _) (hg1 _ _ _ _ _) (ht1 _ _ _ _ _) (fun it => turn2d_1)
      (fun it => bd_inD (fun _ _ z => z) (hk _ _ _ _ _) (he _ _ _ _ _)) (fun j hj => by cases hj)
  generalize hce : compEnvC sc cl s3.heap.objs.size X.env = ce at I4 pg pt bd ⊢
  have cL : ce.locals = s3.heap.objs.size := by subst hce; rfl
  generalize hH3 : upd H2 D (.dK []) = H3 at I3 I4 pg pt bd w0 f3
  have nfp : ∀ b ∈ fp, H3 b = none := fun b hb => (f3 b hb).1.1
  generalize hs4 : ({ s3 with heap := pushCells (s3.heap.push { cls := .type "dict", data := .dict #[] }) sc.names } : Shared) = s4 at I4 ⊢
  have st4 : tn 0 s4.heap := T.keep _ _ _ st3 fun b _ o e => by rw [← hs4]; exact pushCells_keeps _ _ _ _ (Heap.get?_push_of_some _ e)
  have stat : ∀ {σ' : L2.St} {H' : Hp} {s' : Shared}, Inv (X.blk s3 H3 sc ce fp) [] σ' H' s' → (∀ b ∈ fp, H' b = none) → ∀ b ∈ fp, FpOk (X.blk s3 H3 sc ce fp) [] H' b := fun {σ' H' s'} I' hn b hb =>
    ⟨hn b hb, (I'.ok.exf b hb).1, I'.ok.exfs b hb, .inl hb, fun x c e => (I'.ok.exf b hb).2 x c e, fun p hp => absurd (show p ∈ ([] : List (Addr × Obj)) ++ [] from hp) (by simp)⟩
  have loop : codeAny (model X.prog X.w) X.A (.compLoop (e2d kx vx t0 i0 f0 t1 i1 f1 sc pos) 0 (.ref it) (.ref D) ce) (compPost (model X.prog X.w) X.A X.xe none (EP X pins σ Q) (.ref D) s3.heap.objs.size) s4 := by
    refine loop2d turn2d_0 (fun n s' => ∃ i H', Inv (X.blk s3 H3 sc ce fp) [] (wipe σ (own.map (·.2))) H' s' ∧ tn i s'.heap ∧ (∀ b ∈ fp, H' b = none) ∧ W i n H') ?_ m0 ⟨0, H3, I4, st4, nfp, w0⟩
    rintro n s5 ⟨i, H5, I5, st5, n5, w5⟩
    rcases turn i n H5 w5 with ⟨stop, qq⟩ | ⟨go, N1, hN1, step⟩
    · refine thnF (T.done (X.blk s3 H3 sc ce fp) rfl rfl rfl hc i [] s5 _ H5 (fun _ _ => False) I5 (stat I5 n5) st5 stop) fun r s6 ⟨hr, I6⟩ => ?_
      subst hr
      have I7 : Inv X pins σ H5 s6 := I3.call' (ch := fp) I6.os I6.base I6.hok I6.bare fun b hb => let z := (f3 b hb).1.2; ⟨z.2.2.1, z.1, z.2.2.2.1, z.2.2.2.2⟩
      have nC : H5 s3.heap.objs.size = none := by
        have z : H5 ce.locals = none := I6.free
        rwa [cL] at z
      obtain ⟨m, hn, _⟩ := I6.loc
      have hn : s6.heap.Ns ce.locals m := hn
      rw [cL] at hn
      obtain ⟨u0, u1, u2, u3, u4, u5⟩ := I3.fpOk (Nat.le_refl _) nC
      exact ⟨m, hn, fun h'' sb => ⟨.ref D, H5, I7.turned (t' := s6.toks) (fun b o hb e => (sb.2 b hb).trans e) u0 u1 u3 u4 u5, rfl, qq⟩⟩
    · refine thnF (T.item (X.blk s3 H3 sc ce fp) rfl rfl rfl hc i [] s5 _ H5 (fun _ _ => False) I5 (stat I5 n5) st5 go) fun r s6 ⟨u, hr, h6⟩ => ?_
      subst hr
      refine thnF h6 fun _ s7 ⟨x, H7, I7, r7, y7, st7, n7⟩ => ?_
      have I7' := I7.pinned (stat I7 n7) (T.obj _ _ st7)
      refine thnF (pg.run _ s7 _ H7 x u _ I7' r7 (step x H7 y7)) fun _ s8 ⟨σ8, H8, I8, hw8, q8⟩ => ?_
      refine thnF (pt.run _ s8 σ8 H8 _ I8 q8) fun b s9 ⟨H9, I9, q9⟩ => ?_
      have fin : ∀ {s' : Shared} {H' : Hp} {σ' : L2.St}, Inv (X.blk s3 H3 sc ce fp) ([] ++ pinsAt fp s7.heap) σ' H' s' → σ'.length = σ8.length → (∀ (j : Nat) v, j ∉ vs1 → σ8[j]? = some (some v) → σ'[j]? = some (some v)) → N1 H' →
          ∃ m, m < n ∧ ∃ i H', Inv (X.blk s3 H3 sc ce fp) [] (wipe σ (own.map (·.2))) H' s' ∧ tn i s'.heap ∧ (∀ b ∈ fp, H' b = none) ∧ W i m H' := fun {s' H' σ'} I' hl hk nx => by
        obtain ⟨m', hm, w'⟩ := hN1 H' nx
        have pin' : ∀ b ∈ fp, ∀ o, s7.heap.get? b = some o → s'.heap.get? b = some o ∧ H' b = none := fun b hb o e =>
          let z := I'.pin (b, o) (List.mem_append_right _ (List.mem_append_right _ (mem_pinsAt hb e)))
          ⟨z.1, z.2.1⟩
        refine ⟨m', hm, i + 1, H', (I'.unpinned (pins := [])).weak (by rw [hl, ← hw8, wipe_length]) (fun j v e => ?_), T.keep _ _ _ st7 fun b hb o e => (pin' b hb o e).1, fun b hb => ?_, w'⟩
        · rw [← hw8] at e
          obtain ⟨z1, z2⟩ := wipe_some e
          exact hk j v (fun z => z2 (hv j z)) z1
        · obtain ⟨o, e, _⟩ := T.obj _ _ st7 b hb
          exact (pin' b hb o e).2
      cases b with
      | false =>
        simp only [Bool.false_eq_true, if_false] at q9 ⊢
        exact fin I9 rfl (fun _ _ _ q => q) q9
      | true =>
        simp only [if_true] at q9 ⊢
        refine thnF (bd (.ref it) _ s9 σ8 H9 N1 (fun _ _ => False) I9 q9) fun fn s10 h10 => ?_
        cases fn with
        | done f => exact (show False from h10).elim
        | again c' =>
          obtain ⟨e10, σ10, H10, I10, l10, k10, nx10⟩ := h10
          exact ⟨e10, fin I10 l10 k10 nx10⟩
  exact codeAny_compStart_dict loop (T.self X.A 0 _ _ _ st4 loop)
end
end Kk

namespace Kk
open PySem PySem.Spec PyProof.Rows L2 RZ
/-! zip of a tuple and a list -/
def ItzM (K : PySem.W.Frag) (a b : Addr) : It :=
  ⟨fun i H => ∃ (xs ys : List V) (x y : V), SqT K H a xs ∧ SqL K H b ys ∧ xs[i]? = some x ∧ ys[i]? = some y,
    fun i H v H' => ∃ T x y, v = .ref T ∧ H T = none ∧ H' = upd H T (.tup [x, y]) ∧ (∀ xs, SqT K H a xs → xs[i]? = some x) ∧ ∀ ys, SqL K H b ys → ys[i]? = some y,
    fun i H => ∃ xs ys : List V, SqT K H a xs ∧ SqL K H b ys ∧ i ≤ xs.length ∧ i ≤ ys.length ∧ (i = xs.length ∨ i = ys.length)⟩
theorem turn_zipM {P : Program} {w : World} {K : PySem.W.Frag} {elts : List Expr} {kk : Nat} {tpos : Pos} {a b z TI TO i1 i2 : Addr} (D : ZipSep2 z TI TO i1 i2 [i1, a] [i2, b]) (hne1 : a ≠ i1) (hne : b ≠ i2) :
    Turn P w K (.Tuple elts kk tpos) (ItzM K a b) [z, TI, TO, i1, i2] z (fun i h => IsZip h z TI TO .none ∧ IsTupOf2 h TI (.ref i1) (.ref i2) ∧ (∃ x y, IsTupOf2 h TO x y) ∧ h.IsTupleIter i1 a i ∧ h.IsListIter i2 b i) where
  mem := by simp
  obj := fun i h st c hc => by
    obtain ⟨hz, hTI, ⟨x, y, hTO⟩, ⟨o1, e1, _, d1⟩, ⟨o2, e2, _, d2⟩⟩ := st
    have e' : c = z ∨ c = TI ∨ c = TO ∨ c = i1 ∨ c = i2 := by simpa using hc
    rcases e' with q | q | q | q | q
    · rw [q]; exact ⟨_, hz, fun v q => nomatch q⟩
    · rw [q]; exact ⟨_, hTI, fun v q => nomatch q⟩
    · rw [q]; exact ⟨_, hTO, fun v q => nomatch q⟩
    · rw [q]; exact ⟨o1, e1, fun v q => by rw [d1] at q; cases q⟩
    · rw [q]; exact ⟨o2, e2, fun v q => by rw [d2] at q; cases q⟩
  keep := fun i h h' st k => by
    obtain ⟨hz, hTI, ⟨x, y, hTO⟩, h1, h2⟩ := st
    exact ⟨k z (by simp) _ hz, k TI (by simp) _ hTI, ⟨x, y, k TO (by simp) _ hTO⟩, h1.at fun o q => k i1 (by simp) o q, h2.at fun o q => k i2 (by simp) o q⟩
  item := by
    intro X hP hw hK hc i pins s σ H E I hf st hg
    subst hP hw hK
    obtain ⟨hz, hTI, ⟨x0, y0, hTO⟩, h1, h2⟩ := st
    obtain ⟨xs, ys, x, y, hqx, hqy, hx, hy⟩ := hg
    obtain ⟨its, rv, p1, _⟩ := I.tuple hqx
    obtain ⟨its2, rv2, p2, _⟩ := I.list hqy
    obtain ⟨u1, hu1, ru1⟩ := rv.get hx
    obtain ⟨u2, hu2, ru2⟩ := rv2.get hy
    have hzl : z < s.heap.objs.size := Heap.lt_size hz
    have hh : X.A.in1.handled = none := I.ok.hd hc
    have lt1 : i < its.toArray.size := by
      have := (List.getElem?_eq_some_iff.mp hu1).1
      simpa using this
    have lt2 : i < its2.toArray.size := by
      have := (List.getElem?_eq_some_iff.mp hu2).1
      simpa using this
    refine wpAny_pyNext_zipD2_item D (Draws.tuple hh i1 a hne1 its.toArray) (Draws.list hh i2 b hne its2.toArray) hz hTI hTO ⟨h1, p1⟩ ⟨h2, p2.isList⟩ lt1 lt2 fun x1 x2 h' tk y1 y2 z' TO' h1' h2' hT hsz hk => ?_
    have y1 : its.toArray[i]? = some x1 := y1
    have y2 : its2.toArray[i]? = some x2 := y2
    have e1 : x1 = u1 := by
      have : its.toArray[i]? = some u1 := by simpa using hu1
      rw [this] at y1
      exact (Option.some.inj y1).symm
    have e2 : x2 = u2 := by
      have : its2.toArray[i]? = some u2 := by simpa using hu2
      rw [this] at y2
      exact (Option.some.inj y2).symm
    subst e1 e2
    refine ⟨_, rfl, wpAny_letOwnedTupleGo_zip (s := { s with heap := h', toks := tk }) z' fun h'' z'' sb => ?_⟩
    have hT2 : h''.get? s.heap.objs.size = some { cls := .type "tuple", data := .seq #[x1, x2] } := (sb.2 _ (Nat.ne_of_gt hzl)).trans hT
    have new : ObjOk X.prog X.w (upd H s.heap.objs.size (.tup [x, y])) h'' s.heap.objs.size (.tup [x, y]) :=
      ⟨by show 2 ≤ sizeLine; decide, [x1, x2], .cons ru1 (.cons ru2 .nil), ⟨_, hT2, rfl, _, rfl⟩⟩
    have I1 : Inv X pins σ (upd H s.heap.objs.size (.tup [x, y])) { s with heap := h'', toks := tk } :=
      I.turnedNew (t' := tk) (ch := [z, TI, TO, i1, i2]) (fun c o hb q => (sb.2 c (fun q' => hb (by simp [q']))).trans (hk c o (fun q' => hb (by simp [q'])) (fun q' => hb (by simp [q'])) (fun q' => hb (by simp [q'])) (fun q' => hb (by simp [q'])) q)) hf (Nat.le_refl _) new
    refine ⟨.ref s.heap.objs.size, _, I1, rfl, ⟨_, x, y, rfl, I.hok.fresh (Nat.le_refl _), rfl, fun l hl => by rw [I.tuple_inj hl hqx]; exact hx, fun l hl => by rw [I.list_inj hl hqy]; exact hy⟩, ⟨z'', ?_, ⟨x1, x2, ?_⟩, ?_, ?_⟩, fun c hcm => ?_⟩
    · exact (sb.2 _ D.TIz).trans (hk _ _ D.TIz D.TITO D.TIi1 D.TIi2 hTI)
    · exact (sb.2 _ D.TOz).trans TO'
    · exact h1'.1.at fun o q => (sb.2 _ D.zi1.symm).trans q
    · exact h2'.1.at fun o q => (sb.2 _ D.zi2.symm).trans q
    · have hlt : c < s.heap.objs.size := by
        have e' : c = z ∨ c = TI ∨ c = TO ∨ c = i1 ∨ c = i2 := by simpa using hcm
        rcases e' with q | q | q | q | q
        · rw [q]; exact hzl
        · rw [q]; exact Heap.lt_size hTI
        · rw [q]; exact Heap.lt_size hTO
        · rw [q]; obtain ⟨_, e1, _⟩ := h1; exact Heap.lt_size e1
        · rw [q]; obtain ⟨_, e2, _⟩ := h2; exact Heap.lt_size e2
      rw [upd_ne (Nat.ne_of_lt hlt)]
      exact (hf c hcm).1
  done := by
    intro X hP hw hK hc i pins s σ H E I hf st hg
    subst hP hw hK
    obtain ⟨hz, hTI, ⟨x0, y0, hTO⟩, h1, h2⟩ := st
    obtain ⟨xs, ys, hqx, hqy, le1, le2, hend⟩ := hg
    obtain ⟨its, rv, p1, _⟩ := I.tuple hqx
    obtain ⟨its2, rv2, p2, _⟩ := I.list hqy
    have l1 : xs.length = its.toArray.size := by simpa using rv.length
    have l2 : ys.length = its2.toArray.size := by simpa using rv2.length
    have hh : X.A.in1.handled = none := I.ok.hd hc
    exact wpAny_pyNext_zipD2_end D (Draws.tuple hh i1 a hne1 its.toArray) (Draws.list hh i2 b hne its2.toArray) hz hTI hTO ⟨h1, p1⟩ ⟨h2, p2.isList⟩ (by omega) (by omega) (by omega) fun h' tk hk => ⟨rfl, I.turnedL (t' := tk) (ch := [z, TI, TO, i1, i2]) (fun c o hb q =>
      hk c o (fun q' => hb (by simp [q'])) (fun q' => hb (by simp [q'])) (fun q' => hb (by simp [q'])) (fun q' => hb (by simp [q'])) q) hf⟩
  self := fun A i s Q E st h => wpAny_pyIter_zip st.1 h
def iZipM (K : PySem.W.Frag) (ta : TA) : TI := fun σ H R => ta σ H fun vs H1 => ∃ a b xs ys, vs = [.ref a, .ref b] ∧ SqT K H1 a xs ∧ SqL K H1 b ys ∧ R (ItzM K a b) H1
theorem pi_zipM {X : Cx} {e e2 : Expr} {ta : TA} {p pos tpos : Pos} {elts : List Expr} {kk : Nat} (hg : Gl X "zip") (hm : X.mg "zip" = none) (ha : PA X [e, e2] ta)
    (hs : starEach [e, e2] X.env = (false, eval e X.env) :: starEach [e2] X.env := by rfl) (hpl : (backTo pos (starEach [e2] X.env)).any (·.1) = false := by rfl) :
    PI X (.Tuple elts kk tpos) (.Call (.Name "zip" p) [e, e2] [] pos) (iZipM X.K ta) := by
  refine ⟨fun pins s σ H R I h => ?_⟩
  refine Call_ (ld_blt I hg hm PyProof.Rows.boot_zip (PyProof.Rows.callWith_type1 (thn (ha.run pos pins s σ H _ I h) fun us s1 ⟨vs, H1, I1, r1, q1⟩ => ?_) hs hpl))
  obtain ⟨a, b, xs, ys, ex, hqx, hqy, q⟩ := q1
  subst ex
  cases r1 with
  | cons r rr =>
    cases rr with
    | cons r' rr =>
      cases rr
      cases r
      cases r'
      have fresh5 : ∀ c, c ∈ [s1.heap.objs.size + 4, s1.heap.objs.size + 2, s1.heap.objs.size + 3, s1.heap.objs.size, s1.heap.objs.size + 1] → FpOk X pins H1 c := fun c hcm => by
        have e' : c = s1.heap.objs.size + 4 ∨ c = s1.heap.objs.size + 2 ∨ c = s1.heap.objs.size + 3 ∨ c = s1.heap.objs.size ∨ c = s1.heap.objs.size + 1 := by simpa using hcm
        have hle : s1.heap.objs.size ≤ c := by
          rcases e' with z | z | z | z | z
          · rw [z]; exact Nat.le_add_right _ _
          · rw [z]; exact Nat.le_add_right _ _
          · rw [z]; exact Nat.le_add_right _ _
          · rw [z]; exact Nat.le_refl _
          · rw [z]; exact Nat.le_add_right _ _
        exact I1.fpOk hle (I1.hok.fresh hle)
      obtain ⟨its, rv, p1, _⟩ := I1.tuple hqx
      obtain ⟨its2, rv2, p2, _⟩ := I1.list hqy
      obtain ⟨o1, ho1, _⟩ := id p1
      have alt : a < s1.heap.objs.size := Heap.lt_size ho1
      have blt : b < s1.heap.objs.size := p2.lt
      refine zip_begins2 (begins_tuple a its.toArray) (begins_list b its2.toArray) p1 p2.isList fun h' hz hTI hTO g1 g2 hsz hk => wpAny_pyIter_zip hz ?_
      have I2 : Inv X pins σ H1 { s1 with heap := h' } := I1.kept (t' := s1.toks) hk
      have nb : ∀ k : Nat, (s1.heap.objs.size + k : Nat) ≠ b := fun k z => absurd blt (Nat.not_lt.mpr (by rw [← z]; exact Nat.le_add_right _ _))
      have na : ∀ k : Nat, (s1.heap.objs.size + k : Nat) ≠ a := fun k z => absurd alt (Nat.not_lt.mpr (by rw [← z]; exact Nat.le_add_right _ _))
      have nk : ∀ j k : Nat, j ≠ k → (s1.heap.objs.size + j : Nat) ≠ s1.heap.objs.size + k := fun j k e => by omega
      refine ⟨s1.heap.objs.size + 4, [s1.heap.objs.size + 4, s1.heap.objs.size + 2, s1.heap.objs.size + 3, s1.heap.objs.size, s1.heap.objs.size + 1], _, _, H1, rfl, I2, turn_zipM ?_ (na 0).symm (nb 1).symm, ⟨hz, hTI, ⟨_, _, hTO⟩, ⟨_, g1, rfl, rfl⟩, ⟨_, g2, rfl, rfl⟩⟩, fresh5, q⟩
      exact ⟨nk 2 4 (by decide), nk 3 4 (by decide), nk 2 3 (by decide), nk 2 0 (by decide), by simp,
        fun z => by rcases List.mem_cons.mp z with z | z; exact nk 4 0 (by decide) z; exact na 4 (List.mem_singleton.mp z),
        fun z => by rcases List.mem_cons.mp z with z | z; exact nk 3 0 (by decide) z; exact na 3 (List.mem_singleton.mp z), nk 2 1 (by decide), by simp,
        fun z => by rcases List.mem_cons.mp z with z | z; exact nk 4 1 (by decide) z; exact nb 4 (List.mem_singleton.mp z),
        fun z => by rcases List.mem_cons.mp z with z | z; exact nk 3 1 (by decide) z; exact nb 3 (List.mem_singleton.mp z),
        fun z => by rcases List.mem_cons.mp z with z | z; exact nk 0 1 (by decide) z; exact nb 0 (List.mem_singleton.mp z),
        fun z => by rcases List.mem_cons.mp z with z | z; exact nk 1 0 (by decide) z; exact na 1 (List.mem_singleton.mp z)⟩
theorem walk_zipM {K : PySem.W.Frag} {a b : Addr} {xs ys : List V} {n : Nat} (hn : n = min xs.length ys.length) : Walk (ItzM K a b) n (fun H => SqT K H a xs ∧ SqL K H b ys) (YPair (fun i => xs[i]?) (fun i => ys[i]?)) := by
  subst hn
  refine ⟨fun i _ hi q => ?_, fun _ q => ⟨xs, ys, q.1, q.2, by omega, by omega, by omega⟩, fun i H v H' _ q y => ?_⟩
  · have h1 : i < xs.length := by omega
    have h2 : i < ys.length := by omega
    exact ⟨xs, ys, xs[i], ys[i], q.1, q.2, by simp [h1], by simp [h2]⟩
  · obtain ⟨T, x, z, h1, h2, h3, h4, h5⟩ := y
    exact ⟨T, x, z, h1, h2, h3, h4 xs q.1, h5 ys q.2⟩
end Kk

set_option maxHeartbeats 1000000
namespace Kk
open PySem PySem.Spec PyProof.Rows L2
/-! literal data: what an expression of constants, names, tuples and lists reads, in one step -/
abbrev Lit := L2.St → Hp → PyData → Prop
abbrev Lits := L2.St → Hp → List PyData → Prop
def tLit (K : PySem.W.Frag) (φ : Lit) : TE := fun σ H Q => ∃ d, φ σ H d ∧ ∀ v H', Ex [] H H' → Tp K H' v d → Q v H'
def tLits (K : PySem.W.Frag) (φ : Lits) : TA := fun σ H Q => ∃ ds, φ σ H ds ∧ ∀ vs H', Ex [] H H' → TpAll K H' vs ds → Q vs H'
structure PL (X : Cx) (e : Expr) (φ : Lit) : Prop where
  pe : PE X e (tLit X.K φ)
  mono : ∀ σ H H' d, Ex [] H H' → φ σ H d → φ σ H' d
structure PLs (X : Cx) (es : List Expr) (φ : Lits) : Prop where
  pa : PA X es (tLits X.K φ)
  mono : ∀ σ H H' ds, Ex [] H H' → φ σ H ds → φ σ H' ds
  len : ∀ σ H ds, φ σ H ds → ds.length = es.length
theorem peL {X : Cx} {e : Expr} {t t' : TE} (h : PE X e t) (i : ∀ σ H Q, t' σ H Q → t σ H Q) : PE X e t' := ⟨fun pins s σ H Q I q => h.run pins s σ H Q I (i σ H Q q)⟩
theorem paL {X : Cx} {es : List Expr} {t t' : TA} (h : PA X es t) (i : ∀ σ H Q, t' σ H Q → t σ H Q) : PA X es t' := ⟨fun pos pins s σ H Q I q => h.run pos pins s σ H Q I (i σ H Q q)⟩
def lC (d : PyData) : Lit := fun _ _ d' => d' = d
def lV (K : PySem.W.Frag) (i : Nat) : Lit := fun σ H d => ∃ v, σ[i]? = some (some v) ∧ Tp K H v d
def lNil : Lits := fun _ _ ds => ds = []
def lCons (φ : Lit) (ψ : Lits) : Lits := fun σ H ds => ∃ d r, ds = d :: r ∧ φ σ H d ∧ ψ σ H r
def lTup (ψ : Lits) : Lit := fun σ H d => ∃ ds, d = .tuple ds ∧ ψ σ H ds
section
variable {X : Cx} {pos : Pos} {e : Expr} {es : List Expr} {φ : Lit} {ψ : Lits}
theorem pl_str {x : Str} {j} : PL X (.Constant (.str x) j pos) (lC (.str x)) :=
  ⟨peL pe_str fun σ H Q ⟨d, h, q⟩ => by subst h; exact q _ H .refl (.str x), fun _ _ _ _ _ h => h⟩
theorem pl_non {j} : PL X (.Constant .none j pos) (lC .none) :=
  ⟨peL pe_non fun σ H Q ⟨d, h, q⟩ => by subst h; exact q _ H .refl .non, fun _ _ _ _ _ h => h⟩
theorem pl_bl {b : Bool} {j} : PL X (.Constant (.bool b) j pos) (lC (.bool b)) :=
  ⟨peL pe_bl fun σ H Q ⟨d, h, q⟩ => by subst h; exact q _ H .refl (.bl b), fun _ _ _ _ _ h => h⟩
theorem pl_int {i : Int} {j} : PL X (.Constant (.int i) j pos) (lC (.int i)) :=
  ⟨peL pe_int fun σ H Q ⟨d, h, q⟩ => by subst h; exact q _ H .refl (.int i), fun _ _ _ _ _ h => h⟩
theorem pl_v (i : Nat) {x : Str} (h : PE X (.Name x pos) (tVar i)) : PL X (.Name x pos) (lV X.K i) :=
  ⟨peL h fun σ H Q ⟨d, ⟨v, hv, hd⟩, q⟩ => ⟨v, hv, q v H .refl hd⟩, fun σ H H' d e ⟨v, hv, hd⟩ => ⟨v, hv, hd.ex e⟩⟩
theorem pls_nil : PLs X [] lNil :=
  ⟨paL pa_nil fun σ H Q ⟨ds, h, q⟩ => by subst h; exact q [] H .refl .nil, fun _ _ _ _ _ h => h, fun _ _ ds h => by rw [h]; rfl⟩
theorem pls_cons (a : PL X e φ) (b : PLs X es ψ) (hs : starEach (e :: es) X.env = (false, eval e X.env) :: starEach es X.env := by rfl) : PLs X (e :: es) (lCons φ ψ) := by
  refine ⟨paL (pa_cons a.pe b.pa hs) fun σ H Q ⟨ds, ⟨d, r, h, h1, h2⟩, q⟩ => ?_, fun σ H H' ds x ⟨d, r, h, h1, h2⟩ => ⟨d, r, h, a.mono _ _ _ _ x h1, b.mono _ _ _ _ x h2⟩, fun σ H ds ⟨d, r, h, _, h2⟩ => by rw [h, List.length_cons, List.length_cons, b.len σ H r h2]⟩
  subst h
  refine ⟨d, h1, fun v H1 x1 dv => ⟨r, b.mono _ _ _ _ x1 h2, fun vs H2 x2 dvs => q _ H2 (x1.trans x2) (.cons (dv.ex x2) dvs)⟩⟩
theorem pl_tup {x1} (b : PLs X es ψ) (hl : es.length ≤ 1000) : PL X (.Tuple es x1 pos) (lTup ψ) := by
  refine ⟨peL (pe_tup b.pa) fun σ H Q ⟨d, ⟨ds, h, h1⟩, q⟩ => ?_, fun σ H H' d x ⟨ds, h, h1⟩ => ⟨ds, h, b.mono _ _ _ _ x h1⟩⟩
  subst h
  refine ⟨ds, h1, fun vs H1 x1 dvs => ⟨?_, fun p np => q _ _ (x1.trans (.new np)) (.tup (.of upd_same) ((dvs.ex (.new (xs := []) np))))⟩⟩
  rw [dvs.len, b.len _ _ _ h1]
  exact Nat.le_trans hl (by decide)
end
end Kk

set_option maxHeartbeats 4000000
namespace Kk
open PySem PySem.Spec PyProof.Rows L2
/-! a tuple times nought, times one, times more -/
theorem tuple_mul1 (l : Addr) (items : Array Value) (n : Nat) (dd : Option Addr) (sl : Array (Option Value)) (u : Tok) :
    Meets (Builtin.«tuple.__mul__» ⟨[.ref l, .int 1 u], []⟩) (fun _ R s => s.heap.get? l = some { cls := .type "tuple", dict := dd, data := .seq items n, slots := sl } ∧
      R (.ok (.ret (Value.ref l))) s) :=
  .of_wp fun prog w A R s h => by
    obtain ⟨hp, g, d, tk, os⟩ := s
    obtain ⟨hl, h⟩ := h
    have f1 := AutoSeq1.idx_int
    have c0 : (decide ((1 : Int) < -(2 ^ 63)) || decide ((1 : Int) ≥ 2 ^ 63)) = false := by decide
    have c1 : (items.isEmpty || (1 : Int) == 1) = true := by simp
    wp_walk using wpAny_loadPart' hl
    repeat (first
      | (refine wpAny_ite_false (decide_eq_false (by rw [c0]; exact Bool.false_ne_true)) ?_; wp_walk using wpAny_loadPart' hl)
      | (refine wpAny_ite_true (decide_eq_true (by rw [c1])) ?_; wp_walk using wpAny_loadPart' hl))
    exact ⟨_, rfl, h⟩
theorem tuple_mul0 (l : Addr) (items : Array Value) (n : Nat) (dd : Option Addr) (sl : Array (Option Value)) (u : Tok) (hi : items.isEmpty = false) :
    Meets (Builtin.«tuple.__mul__» ⟨[.ref l, .int 0 u], []⟩) (fun _ R s => s.heap.get? l = some { cls := .type "tuple", dict := dd, data := .seq items n, slots := sl } ∧
      R (.ok (.ret (Value.ref s.heap.objs.size))) { s with heap := s.heap.push { cls := Value.type "tuple", data := Data.seq #[] }, toks := s.toks }) :=
  .of_wp fun prog w A R s h => by
    obtain ⟨hp, g, d, tk, os⟩ := s
    obtain ⟨hl, h⟩ := h
    have f1 := AutoSeq1.idx_int
    have c0 : (decide ((0 : Int) < -(2 ^ 63)) || decide ((0 : Int) ≥ 2 ^ 63)) = false := by decide
    have c1 : (items.isEmpty || (0 : Int) == 1) = false := by rw [hi]; rfl
    have c2 : (decide ((0 : Int) ≤ 0) || items.isEmpty) = true := by rfl
    wp_walk using wpAny_loadPart' hl
    repeat (first
      | (refine wpAny_ite_false (decide_eq_false (by rw [c0]; exact Bool.false_ne_true)) ?_; wp_walk using wpAny_loadPart' hl)
      | (refine wpAny_ite_false (decide_eq_false (by rw [c1]; exact Bool.false_ne_true)) ?_; wp_walk using wpAny_loadPart' hl)
      | (refine wpAny_ite_true (decide_eq_true (by rw [c2])) ?_; wp_walk using wpAny_loadPart' hl))
    exact ⟨_, rfl, h⟩
def rRepN (K : PySem.W.Frag) : R2 := fun x y H Q => ∃ l k xs, x = .ref l ∧ y = .int k ∧ SqT K H l xs ∧ xs ≠ [] ∧ xs.length ≤ 1000 ∧ 0 ≤ k ∧ k ≤ 1000 ∧ (k = 1 → Q (.ref l) H) ∧ (k ≠ 1 → ∀ p, H p = none → Q (.ref p) (upd H p (.tup (List.replicate k.toNat xs).flatten)))
section
variable {X : Cx}
theorem op_repN : OpR X (binaryOp .Mult) (rRepN X.K) := by
  intro pins s σ H x y v u Q I rx ry h
  obtain ⟨l, k, xs, rfl, rfl, hT, hne, hz, h0, h2, q1, q⟩ := h
  by_cases e2 : 2 ≤ k
  · exact op_repT _ _ _ _ _ _ _ _ _ I rx ry ⟨l, k, xs, rfl, rfl, hT, hne, e2, h2, hz, q (by omega)⟩
  cases rx
  obtain ⟨t, rfl⟩ := ry
  obtain ⟨its, r, ⟨⟨cls, dd, data, sl⟩, ho, hc, n, hd⟩, hs⟩ := I.tuple hT
  simp only at hc hd
  subst hc hd
  have hle : its.length = xs.length := r.length.symm
  have hn : its ≠ [] := fun e => hne (by
    rw [e] at hle
    exact List.eq_nil_of_length_eq_zero hle.symm)
  have hi : its.toArray.isEmpty = false := by
    cases its with
    | nil => exact absurd rfl hn
    | cons a b => rfl
  have k01 : k = 0 ∨ k = 1 := by omega
  rcases k01 with rfl | rfl
  · refine wpAny_binaryOp_repeat_ref (T := "tuple") (U := "int") (by decide) ⟨_, ho, rfl⟩ (fun s' => typeIs_int s' 0 t) noFill_tuple_mul F.fills_int_mul F.slot_int_rmul repeat_tuple F.slot_int_index.lookup
      (call_meets F.slot_int_rmul (typeIs_int s 0 t) F.entry_int_rmul (F.args_int_rmul_2 _ _) (int_rmul_tuple 0 t l its.toArray n dd sl)
        ⟨ho, rfl, ⟨_, ho, rfl⟩, call_meets F.slot_tuple_mul ⟨_, ho, rfl⟩ F.entry_tuple_mul (F.args_tuple_mul_2 _ _) (tuple_mul0 l its.toArray n dd sl t hi) ⟨ho, ?_⟩⟩)
    refine ⟨.ref s.heap.objs.size, _, I.laid (t' := s.toks) (o := .tup []) (fun b ob q => Heap.get?_push_of_some _ q) (Nat.le_refl _) ?_, rfl, q (by decide) _ (I.hok.fresh (Nat.le_refl _))⟩
    exact ⟨Nat.zero_le _, [], .nil, IsTup.new _ _⟩
  · refine wpAny_binaryOp_repeat_ref (T := "tuple") (U := "int") (by decide) ⟨_, ho, rfl⟩ (fun s' => typeIs_int s' 1 t) noFill_tuple_mul F.fills_int_mul F.slot_int_rmul repeat_tuple F.slot_int_index.lookup
      (call_meets F.slot_int_rmul (typeIs_int s 1 t) F.entry_int_rmul (F.args_int_rmul_2 _ _) (int_rmul_tuple 1 t l its.toArray n dd sl)
        ⟨ho, rfl, ⟨_, ho, rfl⟩, call_meets F.slot_tuple_mul ⟨_, ho, rfl⟩ F.entry_tuple_mul (F.args_tuple_mul_2 _ _) (tuple_mul1 l its.toArray n dd sl t) ⟨ho, ?_⟩⟩)
    exact ⟨.ref l, _, I, rfl, q1 rfl⟩
end
end Kk

namespace K41
open PySem PySem.Spec PyProof.Rows L2 Kk
def topS (i : Nat) : Stmt := PySem.Challenge.pw_wipeways_k41_too_long_in_place.main.body.getD i (.Pass ⟨0, 0, 0, 0⟩)
def abc : Str := Str.ofString "abcdefghijklmnopqrstuvwxyz"
theorem len_line {a : Str} (h : a.length ≤ 1000) : a.length ≤ sizeLine := Nat.le_trans h (by decide)
abbrev sDeck : Stmt := topS 42
abbrev sDraw : Stmt := topS 43
theorem scDeck : FnScope ["_law_script", "_law_k", "_law_cell"] ["_law_script", "_law_k"] (defScope sDeck) := ⟨rfl, rfl, rfl, by decide +kernel, rfl, by decide +kernel, by decide +kernel⟩
theorem scDraw : FnScope ["_law_deck_here", "_law_many", "_law_got", "_law_number"] ["_law_deck_here", "_law_many"] (defScope sDraw) := ⟨rfl, rfl, rfl, by decide +kernel, rfl, by decide +kernel, by decide +kernel⟩
/-- a deck, at most n draws by its counter -/
def Deck (H : Hp) (d : Addr) (n : Nat) : Prop := ∃ a b c : Int, H d = some (.lst [.int a, .int b, .int c]) ∧ 0 ≤ a ∧ 0 ≤ b ∧ b < 2147483647 ∧ 0 ≤ c ∧ c ≤ (n : Int)
theorem Deck.ex {H H' : Hp} {d : Addr} {n : Nat} {xs : List Addr} (h : Deck H d n) (e : Ex xs H H') (m : d ∉ xs) : Deck H' d n := by
  obtain ⟨a, b, c, h, r⟩ := h
  exact ⟨a, b, c, e.lst h m, r⟩
theorem Deck.mono {H : Hp} {d : Addr} {n m : Nat} (h : Deck H d n) (e : n ≤ m) : Deck H d m := by
  obtain ⟨a, b, c, h, r1, r2, r3, r4, r5⟩ := h
  exact ⟨a, b, c, h, r1, r2, r3, r4, by omega⟩
theorem Deck.some {H : Hp} {d : Addr} {n : Nat} (h : Deck H d n) : ∃ xs, H d = some (.lst xs) := let ⟨_, _, _, h, _⟩ := h; ⟨_, h⟩
theorem atN {α : Type} {xs : List α} {j : Nat} {v : α} (h : xs[j]? = some v) : atI xs (j : Int) = some v := atI_nat h
section
variable {P : Program} {w : World} {K : PySem.W.Frag} {mg : Str → Option Value} {base : Heap}
def spDeck (K : PySem.W.Frag) : Sp := fun vs H Q _ => ∃ (s : Addr) (ns : List Int) (k : Nat), vs = [.ref s, .int k] ∧ SqL K H s (ns.map V.int) ∧
  ∀ H' p, H p = none → Ex [] H H' → Deck H' p 0 → Q (.ref p) H'
theorem ok_deck {f : Addr} {fd : FuncData} {k : Nat} (F : Fun K "_law_deck" "_law_deck" sDeck f fd) (ml : mg "len" = none) (mi : mg "int" = none) : FnOk P w K mg base CX0 (k + 1) f fd ["_law_script", "_law_k"] (spDeck K) := by
  refine F.ok scDeck (fun vs H Q E h => ?_) (fun cdv A outer s H vs Q E hr h => ?_)
  · obtain ⟨s, ns, k, rfl, _⟩ := h; rfl
  · obtain ⟨s, ns, k, rfl, hS, q⟩ := h
    refine ⟨_, pss_cons (ps_set (i := 2) scDeck.nd rfl (.inl rfl) pe_int)
      (pss_cons (ps_if (pt_cmpR op_lt (pv 1) (pe_callB call_len_seq (by rfl) ml PySem.boot_len (pa_cons (pv 0) pa_nil)) (nomark _)) (pss_one (ps_set (i := 2) scDeck.nd rfl (.inl rfl) (pe_ix ix_list (pv 0) (pv 1) (fun _ _ => rfl)))) pss_nil)
      (pss_one (ps_ret (pe_lst (pa_cons (pe_op op_mul (pv 2) (pe_callTy call_int1 (by rfl) mi (by decide +kernel) (pa_cons (pe_cmpR op_ge (pv 2) (pe_op op_pow pe_int pe_int) (nomark _)) pa_nil)))
        (pa_cons (pe_op op_mod (pv 2) pe_int) (pa_cons pe_int pa_nil))))))), ?_⟩
    have fin : ∀ (z : Int) (p : Addr) (i : Bool), H p = none → (i = true → 0 ≤ z) → Q (.ref p) (upd H p (.lst [.int (z * if i = true then 1 else 0), .int (z % 2147483647), .int 0])) := fun z p i np hi =>
      q _ p np (.new np) ⟨_, _, _, upd_same, by cases i with | false => simp | true => (have := hi rfl; simp; exact this), Int.emod_nonneg _ (by decide), Int.emod_lt_of_pos _ (by decide), by decide, by decide⟩
    refine ⟨.int k, rfl, .ref s, rfl, s, _, rfl, .inl hS, _, _, rfl, rfl, _, rfl, ite2 (fun e => ?_) (fun e => ?_)⟩
    · have e1 : k < ns.length := by
        have e2 := of_decide_eq_true e
        rw [List.length_map] at e2; omega
      have e3 : (ns.map V.int)[k]? = some (.int ns[k]) := by rw [List.getElem?_map, List.getElem?_eq_getElem e1]; rfl
      refine ⟨.ref s, rfl, .int k, rfl, s, _, _, _, rfl, rfl, hS, atN e3, ?_⟩
      refine ⟨.int ns[k], rfl, .int ns[k], rfl, 10, 18, rfl, rfl, ⟨by decide, by decide, by decide⟩, ns[k], _, rfl, rfl, .inr ⟨_, rfl, ns[k], _, rfl, rfl, .inr ?_, .int ns[k], rfl, ns[k], _, rfl, rfl, (by show (0 : Int) < 2147483647; decide), (by show 3 ≤ sizeLine; decide), fun p np => fin _ p _ np ?_⟩⟩
      · split <;> decide
      · intro e5
        have e6 := of_decide_eq_true e5
        exact Int.le_trans (by decide) e6
    · refine ⟨.int 0, rfl, .int 0, rfl, 10, 18, rfl, rfl, ⟨by decide, by decide, by decide⟩, 0, _, rfl, rfl, .inr ⟨_, rfl, 0, _, rfl, rfl, .inl (by decide), .int 0, rfl, 0, _, rfl, rfl, (by show (0 : Int) < 2147483647; decide), (by show 3 ≤ sizeLine; decide), fun p np => fin _ p _ np (fun _ => Int.le_refl _)⟩⟩
def spDraw : Sp := fun vs H Q _ => ∃ (d : Addr) (m : Int) (n : Nat), vs = [.ref d, .int m] ∧ Deck H d n ∧ n ≤ 1000000 ∧ 0 < m ∧ m < 1000000 ∧
  ∀ H' v, 0 ≤ v → v < m → Ex [d] H H' → Deck H' d (n + 1) → Q (.int v) H'
theorem ok_draw {f : Addr} {fd : FuncData} {k : Nat} (F : Fun K "_law_draw" "_law_draw" sDraw f fd) : FnOk P w K mg base CX0 (k + 1) f fd ["_law_deck_here", "_law_many"] spDraw := by
  refine F.ok scDraw (fun vs H Q E h => ?_) (fun cdv A outer s H vs Q E hr h => ?_)
  · obtain ⟨d, m, n, rfl, _⟩ := h; rfl
  · obtain ⟨d, m, n, rfl, ⟨a, b, c, hd, ha, hb, hb2, hc, hc2⟩, hn, hm, hm2, q⟩ := h
    refine ⟨_, pss_cons (ps_if (pt_cmpR op_gt (pe_ix ix_list (pv 0) pe_int (fun _ _ => rfl)) pe_int (nomark _))
        (pss_cons (ps_set (i := 2) scDraw.nd rfl (.inl rfl) (pe_op op_mod (pe_ix ix_list (pv 0) pe_int (fun _ _ => rfl)) (pv 1)))
        (pss_cons (ps_asg (pe_op op_fdiv (pe_ix ix_list (pv 0) pe_int (fun _ _ => rfl)) (pv 1)) (pg_sub (pv 0) pe_int set_list))
        (pss_one (ps_ret (pv 2))))) pss_nil)
      (pss_cons (ps_asg (pe_op op_add (pe_ix ix_list (pv 0) pe_int (fun _ _ => rfl)) pe_int) (pg_sub (pv 0) pe_int set_list))
      (pss_cons (ps_set (i := 3) scDraw.nd rfl (.inl rfl) (pe_op op_mod (pe_op op_mul (pe_op op_add (pe_op op_add (pe_ix ix_list (pv 0) pe_int (fun _ _ => rfl)) (pe_op op_mul (pe_op op_mul pe_int (pe_ix ix_list (pv 0) pe_int (fun _ _ => rfl))) (pe_ix ix_list (pv 0) pe_int (fun _ _ => rfl)))) pe_int) pe_int) pe_int))
      (pss_one (ps_ret (pe_op op_mod (pe_op op_fdiv (pe_op op_mod (pe_op op_mul (pv 3) (pe_op op_add (pv 3) pe_int)) pe_int) pe_int) (pv 1)))))), ?_⟩
    have hL : SqL K H d [.int a, .int b, .int c] := .of hd
    refine ⟨.ref d, rfl, d, _, 0, .int a, rfl, rfl, hL, rfl, a, 0, rfl, rfl, _, rfl, ite2 (fun e => ?_) (fun e => ?_)⟩
    · refine ⟨.ref d, rfl, d, _, 0, .int a, rfl, rfl, hL, rfl, .int m, rfl, a, m, rfl, rfl, hm, ?_⟩
      refine ⟨.ref d, rfl, d, _, 0, .int a, rfl, rfl, hL, rfl, .int m, rfl, a, m, rfl, rfl, ⟨hm, by omega⟩, .ref d, rfl, d, _, 0, 0, rfl, rfl, hd, rfl, .int (a % m), rfl, ?_⟩
      exact q _ _ (Int.emod_nonneg _ (by omega)) (Int.emod_lt_of_pos _ hm) (.put hd nt_lst (by simp)) ⟨_, b, c, upd_same, Int.ediv_nonneg ha (by omega), hb, hb2, hc, by omega⟩
    · have x1 : Ex [d] H (upd H d (.lst [.int a, .int b, .int (c + 1)])) := .put hd nt_lst (by simp)
      have hL2 : SqL K (upd H d (.lst [.int a, .int b, .int (c + 1)])) d [.int a, .int b, .int (c + 1)] := .of upd_same
      refine ⟨.ref d, rfl, d, _, 2, .int c, rfl, rfl, hL, rfl, c, 1, rfl, rfl, .ref d, rfl, d, _, 2, 2, rfl, rfl, hd, rfl, ?_⟩
      refine ⟨.ref d, rfl, d, _, 1, .int b, rfl, rfl, hL2, rfl, .ref d, rfl, d, _, 2, .int (c + 1), rfl, rfl, hL2, rfl, 7919, c + 1, rfl, rfl, .inl ⟨by decide, by decide⟩, .ref d, rfl, d, _, 2, .int (c + 1), rfl, rfl, hL2, rfl,
        _, c + 1, rfl, rfl, .inr ⟨by omega, by omega⟩, b, _, rfl, rfl, _, 31, rfl, rfl, _, 48271, rfl, rfl, .inr ⟨by decide, by decide⟩, _, 2147483647, rfl, rfl, (by show (0 : Int) < 2147483647; decide), ?_⟩
      have z1 : 0 ≤ (b + 7919 * (c + 1) * (c + 1) + 31) * 48271 % 2147483647 := Int.emod_nonneg _ (by decide)
      have z2 : (b + 7919 * (c + 1) * (c + 1) + 31) * 48271 % 2147483647 < 2147483647 := Int.emod_lt_of_pos _ (by decide)
      refine ⟨_, rfl, _, rfl, _, 69621, rfl, rfl, _, _, rfl, rfl, .inl ⟨Int.lt_of_lt_of_le (by decide) z1, Int.lt_trans z2 (by decide)⟩, _, 2147483629, rfl, rfl, (by show (0 : Int) < 2147483629; decide), _, 8, rfl, rfl, ⟨by decide, by decide⟩, .int m, rfl, _, m, rfl, rfl, hm, ?_⟩
      exact q _ _ (Int.emod_nonneg _ (by omega)) (Int.emod_lt_of_pos _ hm) x1 ⟨a, b, c + 1, upd_same, ha, hb, hb2, by omega, by omega⟩
end
end K41

namespace K41
open PySem PySem.Spec PyProof.Rows L2 Kk
abbrev sNames : Stmt := topS 44
abbrev nNames : List Str := ["_law_deck_here", "_law_many", "_law_letters", "_law_k", "_law_base", "_law_at", "_law_first", "_law_longer", "_law_got"]
theorem scNames : FnScope nNames ["_law_deck_here", "_law_many"] (defScope sNames) := ⟨rfl, rfl, rfl, by decide +kernel, rfl, by decide +kernel, by decide +kernel⟩
/-- the text of one sign -/
def sg (c : Nat) : Str := ⟨#[c]⟩
def odd8 : Str := Str.ofString "qlastony"
/-- a name as it is drawn: q, small letters, at most eight signs -/
structure NmG (z : Str) : Prop where
  abc : ∀ c ∈ TL.tl z, c ∈ abc.cps.toList
  q : (TL.tl z).head? = some 113
  lo : 2 ≤ z.length
  hi : z.length ≤ 8
  odd : z ≠ odd8
theorem abc_at (v : Int) (h0 : 0 ≤ v) (h1 : v < 26) : ∃ c, atI abc.cps.toList v = some c ∧ c ∈ abc.cps.toList ∧ abc.cps.toList[v.toNat]? = some c := by
  have hl : abc.cps.toList.length = 26 := by decide +kernel
  have h2 : v.toNat < abc.cps.toList.length := by omega
  refine ⟨abc.cps.toList[v.toNat], ?_, List.getElem_mem _, List.getElem?_eq_getElem h2⟩
  have := atI_nat (List.getElem?_eq_getElem h2)
  rwa [Int.toNat_of_nonneg h0] at this
theorem sg_sum : ∀ cl : List Nat, ((cl.map sg).map (·.length)).sum = cl.length
  | [] => rfl
  | c :: cl => by
    rw [List.map_cons, List.map_cons, List.sum_cons, sg_sum cl, List.length_cons]
    show 1 + cl.length = cl.length + 1
    omega
theorem join_sg (cl : List Nat) : TL.tl (Txt.join (Str.ofString "") (cl.map sg)) = cl := by
  rw [TL.join_eq, TL.tl_join]
  have e : TL.tl (Str.ofString "") = [] := by decide +kernel
  rw [e]
  induction cl with
  | nil => rfl
  | cons c r ih =>
    cases r with
    | nil => rfl
    | cons c2 r2 =>
      simp only [List.map_cons, TL.joinL, List.nil_append] at ih ⊢
      rw [ih]; rfl
theorem mul01 {z : Str} {n : Int} (h0 : 0 ≤ n) (h1 : n ≤ 1) : MulOk z n ∧ (Txt.mul z n = Str.empty ∨ Txt.mul z n = z) := by
  have hc : n = 0 ∨ n = 1 := by omega
  rcases hc with rfl | rfl
  · refine ⟨⟨by decide, fun h => absurd (by decide) h, fun h => absurd (by decide) h⟩, .inl ?_⟩
    unfold Txt.mul; rw [if_pos (by decide)]
  · refine ⟨⟨by decide, fun _ h => ?_, fun _ h => ?_⟩, .inr ?_⟩
    · simp at h
    · simp at h
    · unfold Txt.mul; rw [if_neg (by decide), if_pos (by simp)]
theorem zs_ok {n : Int} (h0 : 0 ≤ n) (h1 : n ≤ 1) : TL.tl (Txt.mul (Str.ofString "z") n) = [] ∨ TL.tl (Txt.mul (Str.ofString "z") n) = [122] := by
  rcases (mul01 (z := Str.ofString "z") h0 h1).2 with e | e <;> rw [e]
  · exact .inl (by decide +kernel)
  · exact .inr (by decide +kernel)
theorem ixN_of {n : Nat} {i : Int} (h0 : 0 ≤ i) (h1 : i < n) : ixN n i = some i.toNat := by
  unfold ixN; rw [if_pos h0, if_pos h1]
theorem len_add (a b : Str) : (a ++ b).length = a.length + b.length := by rw [TL.len_tl, TL.tl_append, List.length_append, ← TL.len_tl, ← TL.len_tl]
/-- what a drawn name's signs are -/
theorem name_tl (cl : List Nat) {n : Int} (h0 : 0 ≤ n) (h1 : n ≤ 1) : ∃ zs, (zs = [] ∨ zs = [122]) ∧ TL.tl (Str.ofString "q" ++ Txt.join (Str.ofString "") (cl.map sg) ++ Txt.mul (Str.ofString "z") n) = 113 :: (cl ++ zs) := by
  refine ⟨_, zs_ok h0 h1, ?_⟩
  rw [TL.tl_append, TL.tl_append, join_sg, show TL.tl (Str.ofString "q") = [113] by decide +kernel]
  simp
theorem name_ok {cl : List Nat} {n : Int} (h0 : 0 ≤ n) (h1 : n ≤ 1) (hl : 1 ≤ cl.length) (hl2 : cl.length ≤ 6) (hc : ∀ c ∈ cl, c ∈ abc.cps.toList) : NmG (Str.ofString "q" ++ Txt.join (Str.ofString "") (cl.map sg) ++ Txt.mul (Str.ofString "z") n) := by
  obtain ⟨zs, hz, e⟩ := name_tl cl h0 h1
  have hzl : zs.length ≤ 1 := by rcases hz with rfl | rfl <;> simp
  refine ⟨fun c m => ?_, by rw [e]; rfl, ?_, ?_, fun z => ?_⟩
  · rw [e] at m
    rcases List.mem_cons.mp m with m | m
    · rw [m]; decide +kernel
    · rcases List.mem_append.mp m with m | m
      · exact hc c m
      · rcases hz with rfl | rfl
        · cases m
        · rw [List.mem_singleton.mp m]; decide +kernel
  · rw [TL.len_tl, e, List.length_cons, List.length_append]; omega
  · rw [TL.len_tl, e, List.length_cons, List.length_append]; omega
  · have e2 : TL.tl odd8 = [113, 108, 97, 115, 116, 111, 110, 121] := by decide +kernel
    rw [z, e2] at e
    have el := congrArg List.length e
    simp only [List.length_cons, List.length_append, List.length_nil] at el
    rcases hz with rfl | rfl
    · simp at el; omega
    · have e7 := congrArg (fun l => l[7]?) e
      have hcl : cl.length = 6 := by simp at el; omega
      have : (113 :: (cl ++ [122]))[7]? = some 122 := by
        show (cl ++ [122])[6]? = some 122
        rw [List.getElem?_append_right (by omega), hcl]; rfl
      simp only [this] at e7
      cases e7
theorem abc_inj {i j : Nat} (hi : i < 26) (hj : j < 26) (e : abc.cps.toList[i]? = abc.cps.toList[j]?) : i = j := by
  have nd : abc.cps.toList.Nodup := by decide +kernel
  have hl : abc.cps.toList.length = 26 := by decide +kernel
  rw [List.getElem?_eq_getElem (by omega), List.getElem?_eq_getElem (by omega)] at e
  exact (List.getElem_inj nd).mp (Option.some.inj e)
section
variable {P : Program} {w : World} {K : PySem.W.Frag} {mg : Str → Option Value} {base : Heap}
def spNames : Sp := fun vs H Q _ => ∃ (d : Addr) (m : Nat) (n : Nat), vs = [.ref d, .int m] ∧ Deck H d n ∧ n ≤ 1000 ∧ m ≤ 26 ∧
  ∀ H' p (ws : List Str), H p = none → Ex [d] H H' → Deck H' d (n + 10) → H' p = some (.lst (ws.map V.str)) → ws.length = m → (∀ z ∈ ws, NmG z) → ws.Nodup → (∀ z, ws[0]? = some z → z.length ≤ 7) → Q (.ref p) H'
theorem ok_names {f fD : Addr} {fd fdD : FuncData} {k : Nat} (F : Fun K "_law_names" "_law_names" sNames f fd) (C : Cl P w K mg base k "_law_draw" ["_law_deck_here", "_law_many"] spDraw fD fdD) (ml : mg "len" = none) (mr : mg "range" = none) : FnOk P w K mg base CX0 (k + 1) f fd ["_law_deck_here", "_law_many"] spNames := by
  refine F.ok scNames (fun vs H Q E h => ?_) (fun cdv A outer s H vs Q E hr h => ?_)
  · obtain ⟨d, m, n, rfl, _⟩ := h; rfl
  · obtain ⟨d, m, n, rfl, hD, hn, hm, q⟩ := h
    refine ⟨_, pss_cons (ps_set (i := 2) scNames.nd rfl (.inr rfl) pe_str)
      (pss_cons (ps_setLc (i := 4) (own := [("_law_k", 3)]) (g := gName 3) (tt := tYes) rfl scNames.nd rfl rfl (sw_true rfl rfl rfl (by decide +kernel))
          (pi_range1 (by rfl) mr (pa_cons (pe_op op_add pe_int (pe_call C.g hr (by rfl) C.m C.k C.b .nil pass0 (pa_cons (pv 0) (pa_cons pe_int pa_nil)))) pa_nil))
          (blkOk_by (N := nNames) (sc := defScope sNames) (by decide +kernel))
          (fun _ _ _ _ _ => pg_name (i := 3) scNames.nd rfl (Or.inl rfl)) (fun _ _ _ _ _ => pts_nil)
          (fun _ _ _ _ _ => pe_ix ix_str (pv 2) (pe_call C.g hr (by rfl) C.m C.k C.b .nil pass0 (pa_cons (pv 0) (pa_cons pe_int pa_nil))) (fun _ _ => rfl)))
      (pss_cons (ps_set (i := 5) scNames.nd rfl (.inl rfl) (pe_call C.g hr (by rfl) C.m C.k C.b .nil pass0 (pa_cons (pv 0) (pa_cons (pe_callB call_len_seq (by rfl) ml PySem.boot_len (pa_cons (pv 4) pa_nil)) pa_nil))))
      (pss_cons (ps_set (i := 6) scNames.nd rfl (.inl rfl) (pe_call C.g hr (by rfl) C.m C.k C.b .nil pass0 (pa_cons (pv 0) (pa_cons pe_int pa_nil))))
      (pss_cons (ps_set (i := 7) scNames.nd rfl (.inl rfl) (pe_call C.g hr (by rfl) C.m C.k C.b .nil pass0 (pa_cons (pv 0) (pa_cons pe_int pa_nil))))
      (pss_cons (ps_set (i := 8) scNames.nd rfl (.inl rfl) (pe_lst pa_nil))
      (pss_cons (ps_for PassesOwn.never rfl (pi_range1 (by rfl) mr (pa_cons (pv 1) pa_nil)) (pg_name (i := 3) scNames.nd rfl (.inl rfl))
        (pss_cons (ps_asg (pe_ix ix_str (pv 2) (pe_op op_mod (pe_op op_add (pv 6) (pv 3)) pe_int) (fun _ _ => rfl)) (pg_sub (pv 4) (pv 5) set_list))
        (pss_one (ps_expr (pe_bm PySem.F.plainAttrs_list PySem.F.slot_list_append PySem.F.type_list_append mt_append (pv 8)
          (pa_cons (pe_op op_add_str (pe_op op_add_str pe_str (pe_join pe_str (pv 4))) (pe_op op_mul_str pe_str (pe_op op_mul (pe_op op_mod (pv 3) pe_int) (pv 7)))) pa_nil))))))
      (pss_one (ps_ret (pv 8))))))))), ?_⟩
    refine ⟨.ref d, rfl, d, 6, n, rfl, hD, by omega, by decide, by decide, fun H1 v hv0 hv1 x1 D1 => ?_⟩
    refine ⟨1, v, rfl, rfl, 1 + v, rfl, by omega, by omega, fun B nB => ?_⟩
    have nB0 : H B = none := x1.f B nB
    have dB : d ≠ B := fun z => by obtain ⟨_, q⟩ := D1.some; rw [z, nB] at q; cases q
    refine lc_range (lo := 0) (n := (1 + v).toNat) (fun i H2 => ∃ cl : List Nat, H2 B = some (.lst ((cl.map sg).map V.str)) ∧ cl.length = i ∧ (∀ c ∈ cl, c ∈ abc.cps.toList) ∧ Ex [d] H H2 ∧ Deck H2 d (n + 1 + i)) ?_ ?_ ?_
    · exact ⟨[], upd_same, rfl, by simp, x1.trans (.new nB), D1.ex (.new nB (xs := [])) (by simp)⟩
    · intro i H2 hi ⟨cl, hB, hbl, hbs, x2, D2⟩
      refine ⟨rfl, ?_⟩
      refine ⟨.str abc, rfl, .ref d, rfl, d, 26, n + 1 + i, rfl, D2, by omega, by decide, by decide, fun H3 u hu0 hu1 x3 D3 => ?_⟩
      obtain ⟨c, hc1, hc2, _⟩ := abc_at u hu0 hu1
      have hB3 := x3.lst hB (by simpa using dB.symm)
      refine ⟨abc, u, c, rfl, rfl, by decide, hc1, (cl.map sg).map V.str, hB3, by rw [List.length_map, List.length_map]; exact Nat.lt_of_le_of_lt (show cl.length ≤ 10 by omega) (by decide), ?_⟩
      refine ⟨cl ++ [c], by rw [upd_same, List.map_append, List.map_append]; rfl, by rw [List.length_append, hbl]; rfl, fun b hb => ?_, Ex.own nB0 (x2.trans x3) (.put hB3 nt_lst (by simp)), D3.ex (.put (xs := [B]) hB3 nt_lst (by simp)) (by simpa using dB)⟩
      rcases List.mem_append.mp hb with z | z
      · exact hbs b z
      · rw [List.mem_singleton.mp z]; exact hc2
    · intro H2 ⟨bs, hB, hbl, hbs, x2, D2⟩
      have hl : 1 ≤ bs.length ∧ bs.length ≤ 6 := by omega
      refine ⟨.ref d, rfl, .ref B, rfl, B, _, rfl, .inl (.of hB), d, ((bs.map sg).map V.str).length, n + 1 + 6, rfl, D2.mono (by omega), by omega, by rw [List.length_map, List.length_map]; omega, by rw [List.length_map, List.length_map]; omega, fun H3 at_ ha0 ha1 x3 D3 => ?_⟩
      rw [List.length_map, List.length_map] at ha1
      refine ⟨.ref d, rfl, d, 26, n + 1 + 7, rfl, D3, by omega, by decide, by decide, fun H4 fi hf0 hf1 x4 D4 => ?_⟩
      refine ⟨.ref d, rfl, d, 2, n + 1 + 8, rfl, D4, by omega, by decide, by decide, fun H5 lo hl0 hl1 x5 D5 => ?_⟩
      refine ⟨Nat.zero_le _, fun G nG => ?_⟩
      have x25 : Ex [d] H H5 := ((x2.trans x3).trans x4).trans x5
      have nG0 : H G = none := x25.f G nG
      have hB5 : H5 B = some (.lst ((bs.map sg).map V.str)) := x5.lst (x4.lst (x3.lst hB (by simpa using dB.symm)) (by simpa using dB.symm)) (by simpa using dB.symm)
      have GB : G ≠ B := (ne_of_none hB5 nG).symm
      have Gd : d ≠ G := fun z => by obtain ⟨_, q⟩ := D5.some; rw [z, nG] at q; cases q
      refine ⟨.int m, rfl, m, rfl, by omega, by omega, for_range (lo := 0) (n := (m : Int).toNat) (fun i σ H6 => ∃ (cs : List Nat) (gs : List Str) (y : Option V), σ = [some (.ref d), some (.int m), some (.str abc), y, some (.ref B), some (.int at_), some (.int fi), some (.int lo), some (.ref G)] ∧
        H6 B = some (.lst ((cs.map sg).map V.str)) ∧ cs.length = bs.length ∧ (∀ b ∈ cs, b ∈ abc.cps.toList) ∧ H6 G = some (.lst (gs.map V.str)) ∧ gs.length = i ∧ (∀ z ∈ gs, NmG z) ∧
        (∀ (j : Nat) (z : Str), gs[j]? = some z → (TL.tl z)[1 + at_.toNat]? = abc.cps.toList[((fi + (j : Int)) % 26).toNat]?) ∧ (∀ z : Str, gs[0]? = some z → z.length ≤ 7) ∧ Ex [d] H H6 ∧ Deck H6 d (n + 10)) ?_ ?_ ?_⟩
      · refine ⟨bs, [], _, rfl, (Ex.new (xs := []) nG).lst hB5, rfl, hbs, upd_same, rfl, by simp, by simp, by simp, x25.trans (.new nG), (D5.ex (.new (xs := []) nG) (by simp)).mono (by omega)⟩
      · intro i σ H6 hi ⟨cs, gs, y, e, hc, hcl, hcs, hg, hgl, hgs, hix, hz0, x6, D6⟩
        subst e
        have ai : at_ < ((cs.map sg).map V.str).length := by rw [List.length_map, List.length_map, hcl]; exact ha1
        obtain ⟨c, hc1, hc2, hc3⟩ := abc_at ((fi + (0 + (i : Int))) % 26) (Int.emod_nonneg _ (by decide)) (Int.emod_lt_of_pos _ (by decide))
        refine ⟨.str abc, rfl, .int fi, rfl, .int (0 + (i : Int)), rfl, fi, _, rfl, rfl, _, 26, rfl, rfl, (by show (0 : Int) < 26; decide), abc, _, c, rfl, rfl, by decide, hc1, .ref B, rfl, .int at_, rfl, B, _, at_, at_.toNat, rfl, rfl, hc, ixN_of ha0 ai, ?_⟩
        rw [show (V.str ⟨#[c]⟩ : V) = V.str (sg c) from rfl, ← List.map_set (f := V.str) (a := sg c), ← List.map_set (f := sg) (a := c)]
        have at1 : at_.toNat < cs.length := by rw [hcl]; omega
        have cat : (cs.set at_.toNat c)[at_.toNat]? = some c := by rw [List.getElem?_set_self at1]
        have cl' : (cs.set at_.toNat c).length = bs.length := by rw [List.length_set, hcl]
        have co' : ∀ b ∈ cs.set at_.toNat c, b ∈ abc.cps.toList := fun b hb => by
          rcases List.mem_or_eq_of_mem_set hb with z | z
          · exact hcs b z
          · rw [z]; exact hc2
        generalize cs.set at_.toNat c = cs' at cat cl' co'
        have x7 : Ex [B, d] H6 (upd H6 B (.lst ((cs'.map sg).map V.str))) := .put hc nt_lst (by simp)
        have hB7 : (upd H6 B (.lst ((cs'.map sg).map V.str))) B = some (.lst ((cs'.map sg).map V.str)) := upd_same
        have hG7 : (upd H6 B (.lst ((cs'.map sg).map V.str))) G = some (.lst (gs.map V.str)) := by rw [upd_ne GB]; exact hg
        have D7 : Deck (upd H6 B (.lst ((cs'.map sg).map V.str))) d (n + 10) := D6.ex (.put (xs := [B]) hc nt_lst (by simp)) (by simpa using dB)
        have x07 : Ex [d] H (upd H6 B (.lst ((cs'.map sg).map V.str))) := Ex.own nB0 x6 x7
        have r0 : 0 ≤ (0 + (i : Int)) % 2 := Int.emod_nonneg _ (by decide)
        have r1 : (0 + (i : Int)) % 2 < 2 := Int.emod_lt_of_pos _ (by decide)
        have m0 : 0 ≤ (0 + (i : Int)) % 2 * lo := Int.mul_nonneg r0 hl0
        have m1 : (0 + (i : Int)) % 2 * lo ≤ 1 := by
          have : (0 + (i : Int)) % 2 * lo ≤ 1 * 1 := Int.mul_le_mul (by omega) (by omega) hl0 (by decide)
          omega
        have nok := name_ok m0 m1 (cl := cs') (by omega) (by omega) co'
        obtain ⟨zs, hzs, etl⟩ := name_tl cs' m0 m1
        have j2 : (Txt.join (Str.ofString "") (cs'.map sg)).length = cs'.length := by rw [TL.len_tl, join_sg]
        have q1 : (Str.ofString "q").length = 1 := by decide +kernel
        have k2 : (Txt.mul (Str.ofString "z") ((0 + (i : Int)) % 2 * lo)).length ≤ 1 := by
          rw [TL.len_tl]
          rcases zs_ok m0 m1 with e | e <;> rw [e] <;> simp
        refine ⟨.ref G, rfl, .inl ⟨rfl, _, .of hG7⟩, ⟨_, rfl⟩, .ref B, rfl, _, B, cs'.map sg, rfl, rfl, .inl (.of hB7), ?_, _, _, rfl, rfl, ?_, .int (0 + (i : Int)), rfl, _, 2, rfl, rfl, (by show (0 : Int) < 2; decide), .int lo, rfl, _, lo, rfl, rfl, .inr ⟨by omega, by omega⟩, _, _, rfl, rfl, (mul01 m0 m1).1, _, _, rfl, rfl, ?_, G, _, _, rfl, rfl, hG7, ?_, ?_⟩
        · rw [sg_sum, cl', show (Str.ofString "").length = 0 by decide +kernel]; omega
        · rw [q1, j2, cl']; exact Nat.le_trans (show 1 + bs.length ≤ 10 by omega) (by decide)
        · rw [len_add, q1, j2, cl']; exact Nat.le_trans (show 1 + bs.length + _ ≤ 10 by omega) (by decide)
        · rw [List.length_map, hgl]; exact Nat.lt_of_le_of_lt (show i ≤ 100 by omega) (by decide)
        · refine ⟨cs', gs ++ [Str.ofString "q" ++ Txt.join (Str.ofString "") (cs'.map sg) ++ Txt.mul (Str.ofString "z") ((0 + (i : Int)) % 2 * lo)], _, rfl, by rw [upd_ne GB.symm]; exact hB7, cl', co', by rw [upd_same, List.map_append]; rfl, by rw [List.length_append, hgl]; rfl, fun z hz => ?_, fun j z hz => ?_, fun z hz => ?_, Ex.own nG0 x07 (.put hG7 nt_lst (by simp)), D7.ex (.put (xs := [G]) hG7 nt_lst (by simp)) (by simpa using Gd)⟩
          · rcases List.mem_append.mp hz with z1 | z1
            · exact hgs z z1
            · rw [List.mem_singleton.mp z1]; exact nok
          · by_cases hj : j < gs.length
            · rw [List.getElem?_append_left hj] at hz
              exact hix j z hz
            · rw [List.getElem?_append_right (by omega)] at hz
              have hj2 : j - gs.length = 0 := by
                cases hq : j - gs.length with
                | zero => rfl
                | succ r => rw [hq] at hz; simp at hz
              have hj3 : j = i := by omega
              rw [hj2] at hz
              cases hz
              rw [etl, hj3, Nat.add_comm 1 at_.toNat, List.getElem?_cons_succ, List.getElem?_append_left (by rw [cl']; omega), cat, ← hc3, Int.zero_add]
          · by_cases hj : 0 < gs.length
            · rw [List.getElem?_append_left hj] at hz
              exact hz0 z hz
            · have hi0 : i = 0 := by omega
              rw [List.getElem?_append_right (by omega)] at hz
              have : (0 : Nat) - gs.length = 0 := by omega
              rw [this] at hz
              cases hz
              subst hi0
              have e0 : (0 + ((0 : Nat) : Int)) % 2 * lo = 0 := by simp
              rw [len_add, len_add, q1, j2, cl', e0]
              have : (Txt.mul (Str.ofString "z") 0).length = 0 := by decide +kernel
              omega
      · intro σ H6 ⟨cs, gs, y, e, hc, hcl, hcs, hg, hgl, hgs, hix, hz0, x6, D6⟩
        subst e
        refine ⟨.ref G, rfl, q H6 G gs nG0 x6 D6 hg (by omega) hgs ?_ hz0⟩
        rw [List.Nodup, List.pairwise_iff_getElem]
        intro i j hi hj hij e
        have h1 := hix i _ (List.getElem?_eq_getElem hi)
        have h2 := hix j _ (List.getElem?_eq_getElem hj)
        rw [e, h2] at h1
        have := abc_inj (by omega) (by omega) h1
        omega
end
end K41

namespace K41
open PySem PySem.Spec PyProof.Rows L2 Kk
/-! the text -/
abbrev sName : Stmt := topS 12
theorem scName : FnScope ["thing"] ["thing"] (defScope sName) := ⟨rfl, rfl, rfl, by decide +kernel, rfl, by decide +kernel, by decide +kernel⟩
/-! the mathematics -/
def tongS : List Str := ["take", "ask", "number", "copy", "mix", "open", "tell", "wipe", "clear", "drop", "choose", "loop", "out", "risk", "fault", "call", "back", "def", "main"].map Str.ofString
def tongV : List V := tongS.map V.str
def allAbc (a : Str) : Bool := a.cps.toList.all fun c => decide (c ∈ abc.cps.toList)
def nameB (a : Str) : Bool := !inV (.str a) tongV && (decide ((1 : Int) ≤ (a.length : Int)) && decide ((a.length : Int) ≤ 8)) && allAbc a
def dotS : Str := Str.ofString "."
def boxB (a : Str) : Bool := nameB (Txt.partition a dotS).1 && (decide ((Txt.partition a dotS).2.1 = Str.ofString "") || nameB (Txt.partition a dotS).2.2)

theorem dot_tl : TL.tl dotS = [46] := by decide +kernel
theorem no_dot {a : Str} (h : nameB a = true) : 46 ∉ TL.tl a := fun hm => by
  have h2 : allAbc a = true := by
    unfold nameB at h
    cases h3 : allAbc a with
    | true => rfl
    | false => rw [h3, Bool.and_false] at h; cases h
  have h3 := List.all_eq_true.mp h2 46 hm
  have h4 : (decide (46 ∈ abc.cps.toList)) = false := by decide +kernel
  rw [h4] at h3; cases h3
theorem cut {s : Nat} (l : List Nat) (h : s ∈ l) : ∃ p q, l = p ++ s :: q ∧ s ∉ p := by
  induction l with
  | nil => cases h
  | cons x l ih =>
    by_cases e : s = x
    · exact ⟨[], l, by rw [e]; rfl, by simp⟩
    · obtain ⟨p, q, e2, n⟩ := ih (by rcases List.mem_cons.mp h with z | z; exact absurd z e; exact z)
      exact ⟨x :: p, q, by rw [e2]; rfl, fun z => by rcases List.mem_cons.mp z with z | z; exact e z; exact n z⟩
/-- what the module has at its names -/
structure Mg (K : PySem.W.Frag) (mg : Str → Option Value) (tA : Addr) : Prop where
  isinstance : mg "isinstance" = none
  str : mg "str" = none
  len : mg "len" = none
  all : mg "all" = none
  tongue : mg "TONGUE" = some (.ref tA)
  tongueT : ∀ H, SqT K H tA tongV
  most : ∃ t, mg "MOST_LETTERS" = some (.int 8 t)
  letters : ∃ t, mg "LETTERS" = some (.str abc t)
section
variable {P : Program} {w : World} {K : PySem.W.Frag} {mg : Str → Option Value} {base : Heap}

/-- a thing that is no text -/
def NoStr (K : PySem.W.Frag) (H : Hp) (v : V) : Prop := ∃ t : String, TyX K H v (.type t) ∧ kitB t "str" = some false
def spName (K : PySem.W.Frag) (T : Addr) : Sp := fun vs H Q _ => ∃ v, vs = [v] ∧ GxR.TabG H T ∧
  ((∃ a : Str, v = .str a ∧ a.length ≤ 1000 ∧ ∀ H', Ex [] H H' → Q (.bl (nameB a)) H') ∨ (NoStr K H v ∧ Q (.bl false) H))
theorem flat_tong : tongV.all flatV = true := by decide +kernel
theorem name_split (a : Str) (h1 : inV (.str a) tongV = false) : nameB a = (decide ((1 : Int) ≤ (a.length : Int)) && decide ((a.length : Int) ≤ 8) && allAbc a) := by
  unfold nameB; rw [h1]; rfl

theorem ok_name {f c T tA : Addr} {k : Nat} {oc : Value} {od an : Option Addr} {osl : Array (Option Value)} {kV doc pm ct : Value}
    (lk : K.lookup f = some ⟨oc, od, .func (PySem.W.fnOf "is_name" "is_name" (defArgs sName) (defBody sName) (defScope sName) .none kV doc pm an (.ref c) ct), osl⟩) (hc : PySem.W.codeIn K (.ref c) "is_name" = true)
    (tab : GxR.TabB base mg c T) (M : Mg K mg tA) (gls : base.Ns mainGlobals mg) :
    FnOk P w K mg base CX0 (k + 1) f (PySem.W.fnOf "is_name" "is_name" (defArgs sName) (defBody sName) (defScope sName) .none kV doc pm an (.ref c) ct) ["thing"] (spName K T) := by
  obtain ⟨tm, gm⟩ := M.most
  obtain ⟨tl, gl⟩ := M.letters
  refine okC lk hc scName (fun vs H Q E h => ?_) (fun A outer s H vs Q E hr h => ?_)
  · obtain ⟨v, rfl, _⟩ := h; rfl
  · obtain ⟨v, rfl, hT, h⟩ := h
    refine ⟨_, pss_cons (ps_if (PW.pt (pw_or (pt_not (pt_val (pe_callB call_isi (by rfl) M.isinstance (by decide +kernel) (pa_cons (pv 0) (pa_cons (pe_bltn (v := .ty "str") (by rfl) M.str (by decide +kernel) rfl) pa_nil)))))
        (pw_or1 (pt_cmpR op_in_seq (pv 0) (pe_glob (v := .ref tA) rfl M.tongue rfl) rfl)))) (pss_one (ps_ret pe_bl)) pss_nil)
      (pss_one (ps_ret (pe_and (pe_chain op_le op_le pe_int (pe_callB call_len_str (by rfl) M.len PySem.boot_len (pa_cons (pv 0) pa_nil)) (pe_glob (v := .int 8) rfl gm ⟨_, rfl⟩))
        (pe_one (pe_allB hr (by rfl) M.all tab rfl ⟨rfl, rfl, by decide +kernel, rfl, rfl, fun y hy e => absurd e ((by decide +kernel : ∀ y ∈ [(Str.ofString ".0", NameKind.local), (Str.ofString "sign", NameKind.local), (Str.ofString "LETTERS", NameKind.globalImplicit)], y.2 ≠ NameKind.free) y hy)⟩ (pv 0) (elt_in gls rfl rfl rfl gl) (fun _ => rfl)))))), ?_⟩
    rcases h with ⟨a, rfl, ha, q⟩ | ⟨⟨t, ht, hk⟩, q⟩
    · refine ⟨.str a, rfl, .str a, .ty "str", .type "str", .type "str", true, rfl, .ty "str", .base (.str a), kit_ty (by decide +kernel), true, rfl, iteF ?_⟩
      refine ⟨.str a, rfl, tA, tongV, rfl, .inr (M.tongueT _), rfl, flat_tong, _, rfl, ite2 (fun e => ?_) (fun e => ?_)⟩
      · have e2 : inV (.str a) tongV = true := e
        have e3 : nameB a = false := by unfold nameB; rw [e2]; rfl
        have q2 := q H .refl
        rw [e3] at q2; exact q2
      · have e2 : inV (.str a) tongV = false := by cases z : inV (.str a) tongV with | false => rfl | true => exact absurd z e
        refine ⟨.str a, rfl, a, rfl, len_line ha, 1, (a.length : Int), rfl, rfl, _, rfl, ite2 (fun e4 => ?_) (fun e4 => ?_)⟩
        · refine ⟨_, 8, rfl, rfl, _, rfl, ite2 (fun e5 => ?_) (fun e5 => ?_)⟩
          · refine ⟨.str a, rfl, a, rfl, hT, fun H2 hH => ?_⟩
            have q2 := q H2 (.tabbed hT hH)
            rw [name_split a e2, e4, e5] at q2
            exact q2
          · have q2 := q H .refl
            have e6 : decide ((a.length : Int) ≤ 8) = false := by cases z : decide ((a.length : Int) ≤ 8) with | false => rfl | true => exact absurd z e5
            rw [name_split a e2, e6, Bool.and_false, Bool.false_and] at q2
            exact q2
        · have q2 := q H .refl
          have e6 : decide ((1 : Int) ≤ (a.length : Int)) = false := by cases z : decide ((1 : Int) ≤ (a.length : Int)) with | false => rfl | true => exact absurd z e4
          rw [name_split a e2, e6, Bool.false_and, Bool.false_and] at q2
          exact ⟨false, rfl, iteF q2⟩
    · refine ⟨v, rfl, v, .ty "str", .type t, .type "str", false, rfl, .ty "str", ht, kit_ty hk, false, rfl, iteT (iteT q)⟩
end
end K41

set_option maxHeartbeats 8000000
namespace Kk
open PySem PySem.Spec PyProof.Rows L2
/-! the words of the tongue, as data -/
structure Dm where
  boxes : List Str
  recs : List Str
  worths : List Str
  called : List Str
  known : List (Str × Nat × Nat)
/-- unlike ones of the boxes -/
def Sub (D : Dm) (xs : List Str) : Prop := ∃ rest, (xs ++ rest).Perm D.boxes
abbrev ts (x : Str) : PyData := .str x
abbrev tsL (xs : List Str) : PyData := .tuple (xs.map PyData.str)
inductive Wd (D : Dm) : Nat → Nat → PyData → Prop
  | take {n l : Nat} {x w : Str} : x ∈ D.boxes → w ∈ D.worths → Wd D n l (.tuple [ts "take", ts x, ts w])
  | ask {n l : Nat} {x : Str} : x ∈ D.boxes → Wd D n l (.tuple [ts "ask", ts x])
  | number {n l : Nat} {x : Str} {i : Int} : x ∈ D.boxes → 0 ≤ i → i ≤ 9999 → Wd D n l (.tuple [ts "number", ts x, .int i])
  | copy {n l : Nat} {x y : Str} : x ∈ D.boxes → y ∈ D.boxes → Wd D n l (.tuple [ts "copy", ts x, ts y])
  | mix {n l : Nat} {x y z : Str} : x ∈ D.boxes → y ∈ D.boxes → z ∈ D.boxes → Wd D n l (.tuple [ts "mix", ts x, ts y, ts z])
  | opens {n l : Nat} {x y : Str} : x ∈ D.boxes → y ∈ D.boxes → Wd D n l (.tuple [ts "open", ts x, ts y])
  | tell {n l : Nat} {x : Str} : x ∈ D.boxes → Wd D n l (.tuple [ts "tell", ts x])
  | wipe {n l : Nat} {x : Str} : x ∈ D.boxes → Wd D n l (.tuple [ts "wipe", ts x])
  | clear {n l : Nat} {r : Str} : r ∈ D.recs → Wd D n l (.tuple [ts "clear", ts r])
  | drop {n l : Nat} {xs : List Str} : Sub D xs → xs ≠ [] → Wd D n l (.tuple [ts "drop", tsL xs])
  | risk {n l : Nat} {f : Str} : f ∈ D.worths → Wd D n l (.tuple [ts "risk", ts f])
  | fault {n l : Nat} {f : Str} : f ∈ D.worths → Wd D n l (.tuple [ts "fault", ts f])
  | back {n l : Nat} : Wd D n l (.tuple [ts "back"])
  | out {n l : Nat} {i : Int} : 1 ≤ i → i ≤ (l : Int) → Wd D n l (.tuple [ts "out", .int i])
  | call {n l : Nat} {a : Str} {xs ys : List Str} : (a, xs.length, ys.length) ∈ D.known → Sub D xs → Sub D ys → Wd D n l (.tuple [ts "call", ts a, tsL xs, tsL ys])
  | choose {n l : Nat} {rows : List (List PyData)} : rows ≠ [] → rows.length ≤ 4 → (∀ ws ∈ rows, ws.length ≤ 3) → (∀ ws ∈ rows, ∀ w ∈ ws, Wd D n l w) → Wd D (n + 1) l (.tuple [ts "choose", .tuple (rows.map PyData.tuple)])
  | loop {n l : Nat} {ws : List PyData} : ws.length ≤ 3 → (∀ w ∈ ws, Wd D n (l + 1) w) → Wd D (n + 1) l (.tuple [ts "loop", .tuple ws])
end Kk
namespace K41
open PySem PySem.Spec PyProof.Rows L2 Kk
theorem itD {p A B : Prop} [Decidable p] (h : p) (a : A) : if decide p = true then A else B := by rw [if_pos (decide_eq_true h)]; exact a
theorem itN {p A B : Prop} [Decidable p] (h : ¬ p) (b : B) : if decide p = true then A else B := by rw [if_neg (by rw [decide_eq_false h]; exact Bool.false_ne_true)]; exact b
theorem nw {H : Hp} {p : Addr} {o : HO} (n : H p = none) : Ex [] H (upd H p o) ∧ (upd H p o) p = some o := ⟨.new n, upd_same⟩
theorem pw {H : Hp} {p : Addr} {u o : HO} (h : H p = some u) (t : NoTb u := by first | exact nt_lst | exact nt_dK) (fx : Fx u = false := by rfl) : Ex [p] H (upd H p o) ∧ (upd H p o) p = some o := ⟨.put h t (by simp) fx, upd_same⟩
end K41

set_option maxHeartbeats 8000000
namespace K41
open PySem PySem.Spec PyProof.Rows L2 Kk
/-! rows, and rows in words, as data -/
def itm : PyData → List PyData
  | .tuple xs => xs
  | _ => []
def innD : PyData → List PyData
  | .tuple [.str k, .tuple rs] => if k = ("choose" : Str) then rs else if k = ("loop" : Str) then [.tuple rs] else []
  | _ => []
theorem inn_mk (k : Str) (rs : List PyData) : innD (.tuple [.str k, .tuple rs]) = if k = ("choose" : Str) then rs else if k = ("loop" : Str) then [.tuple rs] else [] := rfl
theorem inn_loop (ws : List PyData) : innD (.tuple [.str ("loop" : Str), .tuple ws]) = [.tuple ws] := by rw [inn_mk, if_neg (by decide +kernel), if_pos rfl]
theorem inn_drop (xs : List Str) : innD (.tuple [.str ("drop" : Str), tsL xs]) = [] := by unfold tsL; rw [inn_mk, if_neg (by decide +kernel), if_neg (by decide +kernel)]
def Rw (D : Dm) (c m l : Nat) (r : PyData) : Prop := ∃ ws, r = .tuple ws ∧ ws.length ≤ c ∧ ∀ w ∈ ws, Wd D m l w
def allR : Nat → PyData → List PyData
  | 0, r => [r]
  | n + 1, r => r :: (itm r).flatMap fun w => (innD w).flatMap (allR n)
theorem allR_cons (m : Nat) (r : PyData) : ∃ t, allR m r = r :: t := by cases m <;> exact ⟨_, rfl⟩
/-- the three forms of a word, by the rows in it -/
theorem wd_rows {D : Dm} {m l : Nat} {w : PyData} (h : Wd D m l w) : (∃ rs, w = .tuple [.str ("choose" : Str), .tuple rs] ∧ innD w = rs) ∨ (∃ ws, w = .tuple [.str ("loop" : Str), .tuple ws] ∧ innD w = [.tuple ws]) ∨
    (∃ k ps, w = .tuple (.str k :: ps) ∧ k ≠ ("choose" : Str) ∧ k ≠ ("loop" : Str) ∧ innD w = []) := by
  cases h with
  | choose => exact .inl ⟨_, rfl, by simp [innD]⟩
  | loop => exact .inr (.inl ⟨_, rfl, inn_loop _⟩)
  | drop =>
    exact .inr (.inr ⟨_, _, rfl, by decide +kernel, by decide +kernel, inn_drop _⟩)
  | _ => exact .inr (.inr ⟨_, _, rfl, by decide +kernel, by decide +kernel, rfl⟩)
theorem wd_inn {D : Dm} {m l : Nat} {w : PyData} (h : Wd D m l w) : (innD w).length ≤ 4 ∧ ∀ r ∈ innD w, ∃ m' l', m = m' + 1 ∧ Rw D 3 m' l' r := by
  cases h with
  | @choose n l rows h0 h4 h3 hw =>
    have e : innD (.tuple [ts "choose", .tuple (rows.map PyData.tuple)]) = rows.map PyData.tuple := by simp [innD]
    rw [e]
    refine ⟨by rw [List.length_map]; exact h4, fun r hr => ?_⟩
    obtain ⟨ws, hws, rfl⟩ := List.mem_map.mp hr
    exact ⟨n, l, rfl, ws, rfl, h3 ws hws, hw ws hws⟩
  | @loop n l ws h3 hw =>
    rw [inn_loop]
    refine ⟨by show 1 ≤ 4; decide, fun r hr => ?_⟩
    rw [List.mem_singleton.mp hr]
    exact ⟨n, l + 1, rfl, ws, rfl, h3, hw⟩
  | drop =>
    rw [inn_drop]; exact ⟨by decide, fun r hr => by cases hr⟩
  | _ => exact ⟨by show ([] : List PyData).length ≤ 4; decide, fun r hr => by cases (show r ∈ ([] : List PyData) from hr)⟩
def lenB : Nat → Nat → Nat
  | _, 0 => 1
  | c, m + 1 => 1 + c * (4 * lenB 3 m)
theorem flat_le {α β : Type} (f : α → List β) (B : Nat) : ∀ (l : List α), (∀ x ∈ l, (f x).length ≤ B) → (l.flatMap f).length ≤ l.length * B
  | [], _ => by simp
  | x :: l, h => by
    rw [List.flatMap_cons, List.length_append, List.length_cons, Nat.succ_mul]
    have h1 := h x List.mem_cons_self
    have h2 := flat_le f B l fun y hy => h y (List.mem_cons_of_mem _ hy)
    omega
theorem all_le {D : Dm} : ∀ (m c l : Nat) (r : PyData), Rw D c m l r → (allR m r).length ≤ lenB c m
  | 0, _, _, _, _ => Nat.le_refl 1
  | m + 1, c, l, r, h => by
    obtain ⟨ws, rfl, hc, hw⟩ := h
    show (_ :: ws.flatMap _).length ≤ 1 + c * (4 * lenB 3 m)
    rw [List.length_cons]
    have h1 : (ws.flatMap fun w => (innD w).flatMap (allR m)).length ≤ ws.length * (4 * lenB 3 m) := flat_le _ _ ws fun w hw' => by
      obtain ⟨q1, q2⟩ := wd_inn (hw w hw')
      have := flat_le (allR m) (lenB 3 m) (innD w) fun r' hr' => by
        obtain ⟨m', l', e, hr''⟩ := q2 r' hr'
        obtain rfl : m = m' := by omega
        exact all_le m 3 l' r' hr''
      exact Nat.le_trans this (Nat.mul_le_mul_right _ q1)
    have h2 : ws.length * (4 * lenB 3 m) ≤ c * (4 * lenB 3 m) := Nat.mul_le_mul_right _ hc
    omega
theorem all_big {D : Dm} {m l : Nat} {r : PyData} (hm : m ≤ 1) (h : Rw D 320 m l r) : (allR m r).length ≤ 1300 := by
  have := all_le m 320 l r h
  have h4 : m = 0 ∨ m = 1 := by omega
  rcases h4 with rfl | rfl
  · exact Nat.le_trans this (by decide)
  · exact Nat.le_trans this (by decide)
theorem Rw.up {D : Dm} {c c' m l : Nat} {r : PyData} (h : Rw D c m l r) (e : c ≤ c') : Rw D c' m l r := let ⟨ws, a, b, d⟩ := h; ⟨ws, a, Nat.le_trans b e, d⟩
end K41

set_option maxHeartbeats 8000000
namespace Kk
open PySem PySem.Spec PyProof.Rows L2
theorem TpAll.snoc_inv {K : PySem.W.Frag} {H : Hp} : ∀ {ds : List PyData} {vs : List V} {d : PyData}, TpAll K H vs (ds ++ [d]) → ∃ vs0 x, vs = vs0 ++ [x] ∧ TpAll K H vs0 ds ∧ Tp K H x d
  | [], _, _, h => by
    cases h with
    | cons a b => cases b; exact ⟨[], _, rfl, .nil, a⟩
  | e :: ds, _, _, h => by
    cases h with
    | cons a b =>
      obtain ⟨vs0, x, rfl, q1, q2⟩ := TpAll.snoc_inv b
      exact ⟨_ :: vs0, x, rfl, .cons a q1, q2⟩
theorem Ex.own2 {H H2 H3 : Hp} {F G : Addr} (nF : H F = none) (nG : H G = none) (e : Ex [] H H2) (a : Ex [F, G] H2 H3) : Ex [] H H3 :=
  Ex.own nG Ex.refl (Ex.own nF (e.nil (ys := [G])) a)
end Kk
namespace K41
open PySem PySem.Spec PyProof.Rows L2 Kk
abbrev s_rows_of : Stmt := topS 15
theorem sc_rows_of : FnScope ["word"] ["word"] (defScope s_rows_of) := ⟨rfl, rfl, rfl, by decide +kernel, rfl, by decide +kernel, by decide +kernel⟩
abbrev s_all_rows : Stmt := topS 17
abbrev n_all_rows : List Str := ["row", "found", "due", "inner", "word"]
theorem sc_all_rows : FnScope n_all_rows ["row"] (defScope s_all_rows) := ⟨rfl, rfl, rfl, by decide +kernel, rfl, by decide +kernel, by decide +kernel⟩
abbrev dA (dd : List (Nat × PyData)) : List PyData := dd.flatMap fun p => allR p.1 p.2
abbrev dI (m : Nat) (ws : List PyData) : List (Nat × PyData) := ws.flatMap fun w => (innD w).map (Prod.mk m)
theorem dA_len (dd : List (Nat × PyData)) : dd.length ≤ (dA dd).length := by
  induction dd with
  | nil => simp
  | cons p dd ih =>
    obtain ⟨t, e⟩ := allR_cons p.1 p.2
    show (p :: dd).length ≤ (allR p.1 p.2 ++ dA dd).length
    rw [List.length_append, e, List.length_cons, List.length_cons]; omega
theorem all_split {D : Dm} {c m l : Nat} {ws : List PyData} (h : ∀ w ∈ ws, Wd D m l w) : allR m (.tuple ws) = .tuple ws :: dA (dI (m - 1) ws) := by
  cases m with
  | zero =>
    have e : dI (0 - 1) ws = [] := by
      apply List.flatMap_eq_nil_iff.mpr
      intro w hw
      obtain ⟨_, q⟩ := wd_inn (h w hw)
      cases hi : innD w with
      | nil => rfl
      | cons r rs =>
        obtain ⟨m', _, z, _⟩ := q r (by rw [hi]; exact List.mem_cons_self)
        omega
    rw [e]; rfl
  | succ m =>
    show _ :: _ = _
    congr 1
    show ws.flatMap _ = (ws.flatMap fun w => (innD w).map (Prod.mk m)).flatMap _
    rw [List.flatMap_assoc]
    congr 1
    funext w
    rw [List.flatMap_map]
section
variable {P : Program} {w : World} {K : PySem.W.Frag} {mg : Str → Option Value} {base : Heap}
def Fw (w : PyData) : Prop := (∃ rs, w = .tuple [.str ("choose" : Str), .tuple rs] ∧ innD w = rs) ∨ (∃ ws, w = .tuple [.str ("loop" : Str), .tuple ws] ∧ innD w = [.tuple ws]) ∨
    (∃ k ps, w = .tuple (.str k :: ps) ∧ k ≠ ("choose" : Str) ∧ k ≠ ("loop" : Str) ∧ innD w = [])
def spRowsOf (K : PySem.W.Frag) : Sp := fun vs H Q _ => ∃ (v : V) (wd : PyData), vs = [v] ∧ Tp K H v wd ∧ Fw wd ∧ ∀ H' u, Ex [] H H' → Tp K H' u (.tuple (innD wd)) → Q u H'
theorem ok_rows_of {f : Addr} {fd : FuncData} {k : Nat} (F : Fun K "rows_of" "rows_of" s_rows_of f fd) : FnOk P w K mg base CX0 (k + 1) f fd ["word"] (spRowsOf K) := by
  refine F.ok sc_rows_of (fun vs H Q E h => ?_) (fun cdv A outer s H vs Q E hr h => ?_)
  · obtain ⟨v, wd, rfl, _⟩ := h; rfl
  · obtain ⟨v, wd, rfl, hT, hW, q⟩ := h
    refine ⟨_, pss_cons (ps_if (pt_cmpR op_eq (pe_ix ix_tup (pv 0) pe_int (fun _ _ => rfl)) pe_str (nomark _)) (pss_one (ps_ret (pe_ix ix_tup (pv 0) pe_int (fun _ _ => rfl)))) pss_nil)
      (pss_cons (ps_if (pt_cmpR op_eq (pe_ix ix_tup (pv 0) pe_int (fun _ _ => rfl)) pe_str (nomark _)) (pss_one (ps_ret (pe_tup (pa_cons (pe_ix ix_tup (pv 0) pe_int (fun _ _ => rfl)) pa_nil)))) pss_nil)
      (pss_one (ps_ret (pe_tup pa_nil)))), ?_⟩
    rcases hW with ⟨rs, rfl, hi⟩ | ⟨ws, rfl, hi⟩ | ⟨k0, ps, rfl, n1, n2, hi⟩
    · rw [hi] at q
      cases hT with
      | tup hs ha =>
        cases ha with
        | cons a1 a2 =>
          cases a1
          cases a2 with
          | cons b1 b2 =>
            cases b2
            refine ⟨_, rfl, _, _, 0, _, rfl, rfl, hs, rfl, rfl, _, rfl, itD rfl ?_⟩
            exact ⟨_, rfl, _, _, 1, _, rfl, rfl, hs, rfl, q H _ .refl b1⟩
    · rw [hi] at q
      cases hT with
      | tup hs ha =>
        cases ha with
        | cons a1 a2 =>
          cases a1
          cases a2 with
          | cons b1 b2 =>
            cases b2
            refine ⟨_, rfl, _, _, 0, _, rfl, rfl, hs, rfl, rfl, _, rfl, itN (fun e => absurd (V.str.inj e) (by decide +kernel)) ?_⟩
            refine ⟨_, rfl, _, _, 0, _, rfl, rfl, hs, rfl, rfl, _, rfl, itD rfl ?_⟩
            refine ⟨_, rfl, _, _, 1, _, rfl, rfl, hs, rfl, (by show 1 ≤ sizeLine; decide), fun p np => ?_⟩
            exact q _ _ (.new np) (Tp.new np (.cons b1 .nil))
    · rw [hi] at q
      cases hT with
      | tup hs ha =>
        cases ha with
        | cons a1 a2 =>
          cases a1
          refine ⟨_, rfl, _, _, 0, _, rfl, rfl, hs, atN (j := 0) rfl, rfl, _, rfl, itN (fun e => n1 (V.str.inj e)) ?_⟩
          refine ⟨_, rfl, _, _, 0, _, rfl, rfl, hs, atN (j := 0) rfl, rfl, _, rfl, itN (fun e => n2 (V.str.inj e)) ?_⟩
          refine ⟨(by show 0 ≤ sizeLine; decide), fun p np => ?_⟩
          exact q _ _ (.new np) (Tp.new np .nil)
def spAllRows (K : PySem.W.Frag) : Sp := fun vs H Q _ => ∃ (v : V) (r : PyData) (D : Dm) (m l : Nat), vs = [v] ∧ Tp K H v r ∧ Rw D 320 m l r ∧ m ≤ 1 ∧
  ∀ H' p us fs, H p = none → Ex [] H H' → H' p = some (.lst us) → TpAll K H' us fs → fs.Perm (allR m r) → Q (.ref p) H'
theorem ok_all_rows {f fR : Addr} {fd fdR : FuncData} {k : Nat} (F : Fun K "all_rows" "all_rows" s_all_rows f fd) (CR : Cl P w K mg base k "rows_of" ["word"] (spRowsOf K) fR fdR) : FnOk P w K mg base CX0 (k + 1) f fd ["row"] (spAllRows K) := by
  refine F.ok sc_all_rows (fun vs H Q E h => ?_) (fun cdv A outer s H vs Q E hr h => ?_)
  · obtain ⟨v, r, D, m, l, rfl, _⟩ := h; rfl
  · obtain ⟨v, r, D, m, l, rfl, hT, hR, hm, q⟩ := h
    refine ⟨_, pss_cons (ps_set (i := 1) sc_all_rows.nd rfl (.inl rfl) (pe_lst pa_nil))
      (pss_cons (ps_set (i := 2) sc_all_rows.nd rfl (.inl rfl) (pe_lst (pa_cons (pv 0) pa_nil)))
      (pss_cons (ps_while PassesOwn.never (pt_truth (pv 2) (by intro _; rfl))
        (pss_cons (ps_set (i := 3) sc_all_rows.nd rfl (.inl rfl) (pe_bm0 PySem.F.plainAttrs_list PySem.F.slot_list_pop PySem.F.type_list_pop mt_pop (pv 2)))
        (pss_cons (ps_expr (pe_bm PySem.F.plainAttrs_list PySem.F.slot_list_append PySem.F.type_list_append mt_append (pv 1) (pa_cons (pv 3) pa_nil)))
        (pss_one (ps_for PassesOwn.never rfl (pi_tup (pv 3)) (pg_name (i := 4) sc_all_rows.nd rfl (.inl rfl))
          (pss_one (ps_expr (pe_bm PySem.F.plainAttrs_list PySem.F.slot_list_extend PySem.F.type_list_extend mt_extT (pv 2) (pa_cons (pe_call CR.g hr (by rfl) CR.m CR.k CR.b .nil pass0 (pa_cons (pv 4) pa_nil)) pa_nil)))))))))
      (pss_one (ps_ret (pv 1))))), ?_⟩
    have big := all_big hm hR
    have sml : ∀ n : Nat, n ≤ 200000 → n < sizeLine := fun n h => Nat.lt_of_le_of_lt h (by decide)
    refine ⟨(by show 0 ≤ sizeLine; decide), fun F nF => ?_⟩
    obtain ⟨y1, hF1⟩ := nw (o := .lst []) nF
    refine ⟨v, rfl, (by show 1 ≤ sizeLine; decide), fun G nG => ?_⟩
    obtain ⟨y2, hG2⟩ := nw (o := .lst [v]) nG
    have hF2 := y2.lst hF1
    have nG0 : H G = none := y1.f G nG
    have FG : F ≠ G := ne_of_none hF1 nG
    refine ⟨fun M σ H2 => ∃ (us vs : List V) (fs : List PyData) (dd : List (Nat × PyData)) (y3 y4 : Option V), σ = [some v, some (.ref F), some (.ref G), y3, y4] ∧ H2 F = some (.lst us) ∧ H2 G = some (.lst vs) ∧ TpAll K H2 us fs ∧ TpAll K H2 vs (dd.map Prod.snd) ∧
      (∀ p ∈ dd, ∃ l, Rw D 320 p.1 l p.2) ∧ (fs ++ dA dd).Perm (allR m r) ∧ Ex [] H H2 ∧ M = (dA dd).length, ⟨_, [], [v], [], [(m, r)], _, _, rfl, hF2, hG2, .nil, .cons ((hT.ex y1).ex y2) .nil, ?_, ?_, y1.trans y2, rfl⟩, ?_⟩
    · intro p hp
      rw [List.mem_singleton.mp hp]; exact ⟨l, hR⟩
    · show (allR m r ++ []).Perm _
      rw [List.append_nil]
    · rintro M σ H2 ⟨us, vs, fs, dd, y3, y4, rfl, hF, hG, tF, tG, hdd, hp, x2, eM⟩
      have lp := hp.length_eq
      rw [List.length_append] at lp
      have lf := tF.len
      have lg := tG.len
      rw [List.length_map] at lg
      have ld := dA_len dd
      refine ⟨.ref G, rfl, _, .inl ⟨vs, .of hG, rfl⟩, ?_⟩
      rcases List.eq_nil_or_concat dd with rfl | ⟨dd0, ⟨m1, r1⟩, rfl⟩
      · cases tG
        refine iteF ?_
        refine ⟨_, rfl, q H2 F us fs nF x2 hF tF ?_⟩
        have hp' : (fs ++ []).Perm (allR m r) := hp
        rwa [List.append_nil] at hp'
      · rw [List.concat_eq_append] at *
        rw [List.map_append] at tG
        obtain ⟨vs0, x, rfl, t0, tx⟩ := tG.snoc_inv
        have e1 : (!(vs0 ++ [x]).isEmpty) = true := by cases vs0 <;> rfl
        rw [if_pos e1]
        have tx : Tp K H2 x r1 := tx
        obtain ⟨l1, ws1, rfl, c1, w1⟩ := hdd (m1, r1) (by simp)
        have w1 : ∀ w ∈ ws1, Wd D m1 l1 w := w1
        have sp := all_split (c := 320) w1
        have edA : dA (dd0 ++ [(m1, .tuple ws1)]) = dA dd0 ++ allR m1 (.tuple ws1) := by
          show (dd0 ++ [(m1, PyData.tuple ws1)]).flatMap _ = _
          rw [List.flatMap_append]; simp
        rw [edA] at hp eM lp ld
        refine ⟨fun σ' H' => ∃ m', m' < M ∧ ∃ (us vs : List V) (fs : List PyData) (dd : List (Nat × PyData)) (y3 y4 : Option V), σ' = [some v, some (.ref F), some (.ref G), y3, y4] ∧ H' F = some (.lst us) ∧ H' G = some (.lst vs) ∧ TpAll K H' us fs ∧ TpAll K H' vs (dd.map Prod.snd) ∧
          (∀ p ∈ dd, ∃ l, Rw D 320 p.1 l p.2) ∧ (fs ++ dA dd).Perm (allR m r) ∧ Ex [] H H' ∧ m' = (dA dd).length, fun _ _ z => z, ?_⟩
        -- pop
        refine ⟨.ref G, rfl, .inl ⟨rfl, _, .of hG⟩, G, _, x, rfl, rfl, hG, by simp, ?_⟩
        rw [List.dropLast_concat]
        obtain ⟨z1, hG3⟩ := pw (o := .lst vs0) hG
        have hF3 := z1.lst hF (by simpa using FG)
        -- append
        refine ⟨.ref F, rfl, .inl ⟨rfl, _, .of hF3⟩, x, rfl, F, us, x, rfl, rfl, hF3, sml _ (by omega), ?_⟩
        obtain ⟨z2, hF4⟩ := pw (o := .lst (us ++ [x])) hF3
        have hG4 := z2.lst hG3 (by simpa using FG.symm)
        have z12 : Ex [F, G] H2 _ := (z1.mono fun b hb => by simp at hb; simp [hb]).trans (z2.mono fun b hb => by simp at hb; simp [hb])
        cases tx with
        | tup hs ha =>
          rename_i a1 ts1
          have hl1 := ha.len
          refine ⟨_, rfl, a1, rfl, ⟨ts1, z12.seqT hs⟩, for_tup (a := a1) (xs := ts1) (fun i σ H3 => ∃ (vs' : List V) (y4 : Option V), σ = [some v, some (.ref F), some (.ref G), some (.ref a1), y4] ∧ H3 F = some (.lst (us ++ [.ref a1])) ∧ H3 G = some (.lst vs') ∧
            TpAll K H3 vs' ((dd0 ++ dI (m1 - 1) (ws1.take i)).map Prod.snd) ∧ vs'.length ≤ dd0.length + 4 * i ∧ i ≤ ws1.length ∧ Ex [F, G] H2 H3) ?_ ?_ ?_ ?_⟩
          · refine ⟨vs0, _, rfl, hF4, hG4, ?_, ?_, Nat.zero_le _, z12⟩
            · show TpAll K _ vs0 ((dd0 ++ []).map Prod.snd)
              rw [List.append_nil]
              exact t0.ex z12
            · have := t0.len
              rw [List.length_map] at this; omega
          · rintro i σ H3 _ ⟨vs', y4, _, _, _, _, _, _, x3⟩
            exact x3.seqT hs
          · rintro i x' σ H3 hx ⟨vs', y4, rfl, hF3', hG3', tG3, lv, hi, x3⟩
            obtain ⟨d', hd', td'⟩ := ha.get hx
            have hi' : i < ws1.length := (List.getElem?_eq_some_iff.mp hd').1
            have hmem := List.mem_of_getElem? hd'
            refine ⟨.ref G, rfl, .inl ⟨rfl, _, .of hG3'⟩, x', rfl, x', d', rfl, td'.ex x3, wd_rows (w1 d' hmem), fun H4 u x4 tu => ?_⟩
            cases tu with
            | tup hu hau =>
              rename_i b zs
              have lz := hau.len
              have l4 := (wd_inn (w1 d' hmem)).1
              have hG5 := x4.lst hG3'
              have ll : (dA dd0 ++ allR m1 (.tuple ws1)).length = (dA dd0).length + (allR m1 (.tuple ws1)).length := List.length_append
              have ld0 := dA_len dd0
              refine ⟨G, b, vs', zs, rfl, rfl, hG5, hu, Nat.le_of_lt (sml _ (by omega)), ?_⟩
              obtain ⟨z5, hG6⟩ := pw (o := .lst (vs' ++ zs)) hG5
              have x5 : Ex [F, G] H2 _ := (x3.trans x4.nil).trans (z5.mono fun b hb => by simp at hb; simp [hb])
              refine ⟨vs' ++ zs, _, rfl, z5.lst (x4.lst hF3') (by simpa using FG), hG6, ?_, by rw [List.length_append]; omega, hi', x5⟩
              have et : ws1.take (i + 1) = ws1.take i ++ [d'] := by rw [List.take_add_one, hd']; rfl
              rw [et]
              have e2 : (dd0 ++ dI (m1 - 1) (ws1.take i ++ [d'])).map Prod.snd = (dd0 ++ dI (m1 - 1) (ws1.take i)).map Prod.snd ++ innD d' := by
                show (dd0 ++ (ws1.take i ++ [d']).flatMap _).map Prod.snd = _
                rw [List.flatMap_append, ← List.append_assoc, List.map_append]
                congr 1
                simp [List.map_map, Function.comp_def]
              rw [e2]
              exact ((tG3.ex x4).app hau).ex z5
          · rintro σ H3 ⟨vs', y4, rfl, hF3', hG3', tG3, lv, hi, x3⟩
            rw [hl1, List.take_length] at tG3
            have edB : dA (dd0 ++ dI (m1 - 1) ws1) = dA dd0 ++ dA (dI (m1 - 1) ws1) := List.flatMap_append
            refine ⟨_, ?_, us ++ [.ref a1], vs', fs ++ [.tuple ws1], dd0 ++ dI (m1 - 1) ws1, _, _, rfl, hF3', hG3', (tF.ex x3).app (.cons (.tup (x3.seqT hs) (ha.ex x3)) .nil), tG3, ?_, ?_, Ex.own2 nF nG0 x2 x3, rfl⟩
            · rw [edB, eM, sp, List.length_append, List.length_append, List.length_cons]; omega
            · intro p hp'
              rcases List.mem_append.mp hp' with z | z
              · exact hdd p (List.mem_append_left _ z)
              · obtain ⟨wz, hwz, hz⟩ := List.mem_flatMap.mp z
                obtain ⟨rz, hrz, rfl⟩ := List.mem_map.mp hz
                obtain ⟨m', l', em, hr'⟩ := (wd_inn (w1 wz hwz)).2 rz hrz
                refine ⟨l', ?_⟩
                have : m1 - 1 = m' := by omega
                show Rw D 320 (m1 - 1) l' rz
                rw [this]; exact hr'.up (by decide)
            · rw [edB]
              rw [sp] at hp
              refine List.Perm.trans ?_ hp
              rw [List.append_assoc]
              have pm : (PyData.tuple ws1 :: (dA dd0 ++ dA (dI (m1 - 1) ws1))).Perm (dA dd0 ++ PyData.tuple ws1 :: dA (dI (m1 - 1) ws1)) := List.perm_middle.symm
              exact List.Perm.append_left fs pm
end
end K41

set_option maxHeartbeats 8000000
namespace Kk
open PySem PySem.Spec PyProof.Rows L2
theorem perm_sum {a b : List Int} (h : a.Perm b) : a.sum = b.sum := by
  induction h with
  | nil => rfl
  | cons x _ ih => rw [List.sum_cons, List.sum_cons, ih]
  | swap x y l => simp only [List.sum_cons]; omega
  | trans _ _ p q => exact p.trans q
theorem pre_take (L : List Int) (val : Nat → Int) (hv : ∀ i x, L[i]? = some x → val i = x) : ∀ n, n ≤ L.length → preSum val n = (L.take n).sum
  | 0, _ => rfl
  | n + 1, h => by
    have hn : n < L.length := h
    have e := List.getElem?_eq_getElem hn
    show preSum val n + val n = _
    rw [pre_take L val hv n (by omega), List.take_add_one, e, List.sum_append, hv n _ e]; simp
theorem TpAll.at {K : PySem.W.Frag} {H : Hp} {vs : List V} {ds : List PyData} (h : TpAll K H vs ds) {i : Nat} {d : PyData} (e : ds[i]? = some d) : ∃ v, vs[i]? = some v ∧ Tp K H v d := by
  have hi : i < ds.length := (List.getElem?_eq_some_iff.mp e).1
  have hv : i < vs.length := by rw [h.len]; exact hi
  obtain ⟨d', q1, q2⟩ := h.get (List.getElem?_eq_getElem hv)
  rw [e] at q1; cases q1
  exact ⟨_, List.getElem?_eq_getElem hv, q2⟩
end Kk
namespace K41
open PySem PySem.Spec PyProof.Rows L2 Kk RZ
/-- each of all rows is a row -/
theorem all_rw {D : Dm} : ∀ (m c l : Nat) (r : PyData), 3 ≤ c → Rw D c m l r → ∀ x ∈ allR m r, ∃ m' l', m' ≤ m ∧ Rw D c m' l' x
  | 0, c, l, r, _, h, x, hx => by rw [List.mem_singleton.mp hx]; exact ⟨0, l, Nat.le_refl _, h⟩
  | m + 1, c, l, r, hc, h, x, hx => by
    rcases List.mem_cons.mp hx with z | z
    · rw [z]; exact ⟨m + 1, l, Nat.le_refl _, h⟩
    · obtain ⟨ws, rfl, _, hw⟩ := h
      obtain ⟨wz, hwz, z2⟩ := List.mem_flatMap.mp z
      obtain ⟨rz, hrz, z3⟩ := List.mem_flatMap.mp z2
      obtain ⟨m', l', e, hr⟩ := (wd_inn (hw wz hwz)).2 rz hrz
      obtain rfl : m = m' := by omega
      obtain ⟨m2, l2, q1, q2⟩ := all_rw m c l' rz hc (hr.up hc) x z3
      exact ⟨m2, l2, by omega, q2⟩
abbrev s_boxes_of : Stmt := topS 18
abbrev n_boxes_of : List Str := ["word", "found", "kind", "part"]
theorem sc_boxes_of : FnScope n_boxes_of ["word"] (defScope s_boxes_of) := ⟨rfl, rfl, rfl, by decide +kernel, rfl, by decide +kernel, by decide +kernel⟩
def formT : List (Str × List Str) := [("take", ["box", "name"]), ("ask", ["box"]), ("number", ["box", "whole"]), ("copy", ["box", "box"]), ("mix", ["box", "box", "box"]), ("open", ["box", "box"]), ("tell", ["box"]), ("wipe", ["box"]), ("clear", ["name"]),
  ("drop", ["boxes"]), ("choose", ["rows"]), ("loop", ["row"]), ("out", ["whole"]), ("risk", ["name"]), ("fault", ["name"]), ("call", ["name", "boxes", "boxes"]), ("back", [])].map fun p => (Str.ofString p.1, p.2.map Str.ofString)
def frm (k : Str) : List Str := ((formT.find? fun p => p.1 == k).map (·.2)).getD []
def tStr (ds : List PyData) : List Str := ds.filterMap fun d => match d with | .str x => some x | _ => none
theorem tStr_map (xs : List Str) : tStr (xs.map PyData.str) = xs := by
  induction xs with
  | nil => rfl
  | cons x xs ih => show x :: tStr (xs.map PyData.str) = _; rw [ih]
def stp (q : Str × PyData) : List Str := if q.1 = ("box" : Str) then tStr [q.2] else if q.1 = ("boxes" : Str) then tStr (itm q.2) else []
theorem stp_mk (k : Str) (p : PyData) : stp (k, p) = if k = ("box" : Str) then tStr [p] else if k = ("boxes" : Str) then tStr (itm p) else [] := rfl
def boxD (w : PyData) : List Str := match itm w with
  | .str k :: ps => ((frm k).zip ps).flatMap stp
  | _ => []
/-- where the forms stand -/
structure Fm (K : PySem.W.Frag) (w : World) (mg : Str → Option Value) (fA : Addr) : Prop where
  m : mg "FORMS" = some (.ref fA)
  k : ∀ k ks, (k, ks) ∈ formT → ∃ t, KDct K w fA k (.ref t) ∧ ∀ H, SqT K H t (ks.map V.str)
/-- a part of a kind -/
def Pt (D : Dm) (kd : Str) (p : PyData) : Prop := (kd = ("box" : Str) ∧ ∃ x, p = .str x ∧ x ∈ D.boxes) ∨ (kd = ("boxes" : Str) ∧ ∃ xs, p = tsL xs ∧ Kk.Sub D xs) ∨ (kd ≠ ("box" : Str) ∧ kd ≠ ("boxes" : Str))
inductive Pts (D : Dm) : List Str → List PyData → Prop
  | nil : Pts D [] []
  | cons {k : Str} {ks : List Str} {p : PyData} {ps : List PyData} : Pt D k p → Pts D ks ps → Pts D (k :: ks) (p :: ps)
theorem Pts.len {D : Dm} {ks : List Str} {ps : List PyData} (h : Pts D ks ps) : ks.length = ps.length := by
  induction h with
  | nil => rfl
  | cons _ _ ih => rw [List.length_cons, List.length_cons, ih]
theorem Pts.at {D : Dm} {ks : List Str} {ps : List PyData} (h : Pts D ks ps) : ∀ {i : Nat} {k : Str} {p : PyData}, ks[i]? = some k → ps[i]? = some p → Pt D k p := by
  induction h with
  | nil => intro i k p e; simp at e
  | cons a _ ih =>
    intro i k p e1 e2
    cases i with
    | zero => cases e1; cases e2; exact a
    | succ i => exact ih (i := i) (by simpa using e1) (by simpa using e2)
theorem pt_x {D : Dm} {x : Str} (h : x ∈ D.boxes) : Pt D (Str.ofString "box") (.str x) := .inl ⟨rfl, x, rfl, h⟩
theorem pt_xs {D : Dm} {xs : List Str} (h : Kk.Sub D xs) : Pt D (Str.ofString "boxes") (tsL xs) := .inr (.inl ⟨rfl, xs, rfl, h⟩)
theorem pt_o {D : Dm} {k : Str} {p : PyData} (h : k ≠ Str.ofString "box") (h2 : k ≠ Str.ofString "boxes") : Pt D k p := .inr (.inr ⟨h, h2⟩)
theorem wd_form {D : Dm} {m l : Nat} {w : PyData} (h : Wd D m l w) : ∃ k ps, w = .tuple (.str k :: ps) ∧ (k, frm k) ∈ formT ∧ Pts D (frm k) ps := by
  cases h with
  | take a b => exact ⟨Str.ofString "take", _, rfl, by decide +kernel, .cons (pt_x a) (.cons (pt_o (by decide +kernel) (by decide +kernel)) .nil)⟩
  | ask a => exact ⟨Str.ofString "ask", _, rfl, by decide +kernel, .cons (pt_x a) .nil⟩
  | number a => exact ⟨Str.ofString "number", _, rfl, by decide +kernel, .cons (pt_x a) (.cons (pt_o (by decide +kernel) (by decide +kernel)) .nil)⟩
  | copy a b => exact ⟨Str.ofString "copy", _, rfl, by decide +kernel, .cons (pt_x a) (.cons (pt_x b) .nil)⟩
  | mix a b c => exact ⟨Str.ofString "mix", _, rfl, by decide +kernel, .cons (pt_x a) (.cons (pt_x b) (.cons (pt_x c) .nil))⟩
  | opens a b => exact ⟨Str.ofString "open", _, rfl, by decide +kernel, .cons (pt_x a) (.cons (pt_x b) .nil)⟩
  | tell a => exact ⟨Str.ofString "tell", _, rfl, by decide +kernel, .cons (pt_x a) .nil⟩
  | wipe a => exact ⟨Str.ofString "wipe", _, rfl, by decide +kernel, .cons (pt_x a) .nil⟩
  | clear => exact ⟨Str.ofString "clear", _, rfl, by decide +kernel, .cons (pt_o (by decide +kernel) (by decide +kernel)) .nil⟩
  | drop a => exact ⟨Str.ofString "drop", _, rfl, by decide +kernel, .cons (pt_xs a) .nil⟩
  | risk => exact ⟨Str.ofString "risk", _, rfl, by decide +kernel, .cons (pt_o (by decide +kernel) (by decide +kernel)) .nil⟩
  | fault => exact ⟨Str.ofString "fault", _, rfl, by decide +kernel, .cons (pt_o (by decide +kernel) (by decide +kernel)) .nil⟩
  | back => exact ⟨Str.ofString "back", _, rfl, by decide +kernel, .nil⟩
  | out => exact ⟨Str.ofString "out", _, rfl, by decide +kernel, .cons (pt_o (by decide +kernel) (by decide +kernel)) .nil⟩
  | call _ a b => exact ⟨Str.ofString "call", _, rfl, by decide +kernel, .cons (pt_o (by decide +kernel) (by decide +kernel)) (.cons (pt_xs a) (.cons (pt_xs b) .nil))⟩
  | choose => exact ⟨Str.ofString "choose", _, rfl, by decide +kernel, .cons (pt_o (by decide +kernel) (by decide +kernel)) .nil⟩
  | loop => exact ⟨Str.ofString "loop", _, rfl, by decide +kernel, .cons (pt_o (by decide +kernel) (by decide +kernel)) .nil⟩
theorem frm_len (k : Str) : (frm k).length ≤ 3 := by
  unfold frm
  cases h : formT.find? fun p => p.1 == k with
  | none => simp
  | some p =>
    have hm := List.mem_of_find?_eq_some h
    have : ∀ p ∈ formT, p.2.length ≤ 3 := by decide +kernel
    exact this p hm
theorem sub_len {D : Dm} {xs : List Str} (h : Kk.Sub D xs) (h6 : D.boxes.length = 6) : xs.length ≤ 6 := by
  obtain ⟨r, p⟩ := h
  have := p.length_eq
  rw [List.length_append] at this; omega
theorem sub_mem {D : Dm} {xs : List Str} (h : Kk.Sub D xs) : ∀ x ∈ xs, x ∈ D.boxes := fun x hx => by
  obtain ⟨r, p⟩ := h
  exact p.mem_iff.mp (List.mem_append_left _ hx)
theorem stp_le {D : Dm} {k : Str} {p : PyData} (h6 : D.boxes.length = 6) (h : Pt D k p) : (stp (k, p)).length ≤ 6 ∧ ∀ x ∈ stp (k, p), x ∈ D.boxes := by
  rw [stp_mk]
  rcases h with ⟨rfl, x, rfl, hx⟩ | ⟨rfl, xs, rfl, hx⟩ | ⟨n1, n2⟩
  · rw [if_pos rfl]
    refine ⟨by show 1 ≤ 6; decide, fun y hy => ?_⟩
    rw [List.mem_singleton.mp (show y ∈ [x] from hy)]; exact hx
  · rw [if_neg (by decide +kernel), if_pos rfl]
    have e : tStr (itm (tsL xs)) = xs := tStr_map xs
    show (tStr (itm (tsL xs))).length ≤ 6 ∧ _
    rw [e]
    exact ⟨sub_len hx h6, fun y hy => sub_mem hx y hy⟩
  · rw [if_neg n1, if_neg n2]; exact ⟨by decide, fun y hy => by cases hy⟩
theorem box_mem {D : Dm} {m l : Nat} {w : PyData} (h6 : D.boxes.length = 6) (h : Wd D m l w) : (boxD w).length ≤ 18 ∧ ∀ x ∈ boxD w, x ∈ D.boxes := by
  obtain ⟨k, ps, rfl, _, hp⟩ := wd_form h
  have ez : ∀ q ∈ (frm k).zip ps, Pt D q.1 q.2 := fun q hq => by
    obtain ⟨i, hi, e⟩ := List.mem_iff_getElem.mp hq
    have e' := List.getElem?_eq_getElem hi
    rw [e, List.getElem?_zip_eq_some] at e'
    exact hp.at e'.1 e'.2
  show (((frm k).zip ps).flatMap stp).length ≤ 18 ∧ ∀ x ∈ ((frm k).zip ps).flatMap stp, x ∈ D.boxes
  constructor
  · have := flat_le stp 6 ((frm k).zip ps) fun q hq => (stp_le h6 (ez q hq)).1
    have l3 := frm_len k
    rw [List.length_zip] at this
    have : (((frm k).zip ps).flatMap stp).length ≤ 3 * 6 := Nat.le_trans this (Nat.mul_le_mul_right 6 (Nat.le_trans (Nat.min_le_left _ _) l3))
    exact this
  · intro x hx
    obtain ⟨q, hq, h2⟩ := List.mem_flatMap.mp hx
    exact (stp_le h6 (ez q hq)).2 x h2
theorem cut_one {x : V} {xs : List V} : cutV (x :: xs) (some 1) none = xs := by
  unfold cutV
  have e1 : HT.sIx (x :: xs).length 0 (some 1) = 1 := by
    show (if (1 : Int) < 0 then ((1 : Int) + ((x :: xs).length : Int)).toNat else min (1 : Int).toNat (x :: xs).length) = 1
    rw [if_neg (by decide), List.length_cons]; show min 1 (xs.length + 1) = 1; omega
  rw [e1, HT.sIx_none]
  show xs.take ((x :: xs).length - 1) = xs
  rw [List.length_cons, Nat.add_sub_cancel, List.take_length]
theorem one_cut {x : V} {xs : List V} : ¬ (HT.sIx (x :: xs).length 0 (some 1) = 0 ∧ HT.sIx (x :: xs).length (x :: xs).length none = (x :: xs).length) := fun ⟨h, _⟩ => by
  have e1 : HT.sIx (x :: xs).length 0 (some 1) = 1 := by
    show (if (1 : Int) < 0 then ((1 : Int) + ((x :: xs).length : Int)).toNat else min (1 : Int).toNat (x :: xs).length) = 1
    rw [if_neg (by decide), List.length_cons]; show min 1 (xs.length + 1) = 1; omega
  rw [e1] at h; cases h
section
variable {P : Program} {w : World} {K : PySem.W.Frag} {mg : Str → Option Value} {base : Heap}
def spBoxesOf (K : PySem.W.Frag) : Sp := fun vs H Q _ => ∃ (v : V) (wd : PyData) (D : Dm) (m l : Nat), vs = [v] ∧ Tp K H v wd ∧ Wd D m l wd ∧ D.boxes.length = 6 ∧ ∀ H' p, H p = none → Ex [] H H' → H' p = some (.lst ((boxD wd).map V.str)) → Q (.ref p) H'
theorem ok_boxes_of {f fA : Addr} {fd : FuncData} {k : Nat} (F : Fun K "boxes_of" "boxes_of" s_boxes_of f fd) (M : Fm K w mg fA) (m_zip : mg "zip" = none) : FnOk P w K mg base CX0 (k + 1) f fd ["word"] (spBoxesOf K) := by
  refine F.ok sc_boxes_of (fun vs H Q E h => ?_) (fun cdv A outer s H vs Q E hr h => ?_)
  · obtain ⟨v, wd, D, m, l, rfl, _⟩ := h; rfl
  · obtain ⟨v, wd, D, m, l, rfl, hT, hW, h6, q⟩ := h
    refine ⟨_, pss_cons (ps_set (i := 1) sc_boxes_of.nd rfl (.inl rfl) (pe_lst pa_nil))
      (pss_cons (ps_for PassesOwn.never rfl (pi_zipA (by rfl) m_zip (pa_cons (pe_ix ix_kdict (pe_glob (v := .ref fA) rfl M.m rfl) (pe_ix ix_tup (pv 0) pe_int (fun _ _ => rfl)) (fun _ _ => rfl)) (pa_cons (pe_slice sl_tupA (pv 0) (po_some pe_int) po_none) pa_nil)))
          (pg_tup rfl (pgs_cons (pg_name (i := 2) sc_boxes_of.nd rfl (.inl rfl)) (pgs_cons (pg_name (i := 3) sc_boxes_of.nd rfl (.inl rfl)) pgs_nil)))
          (pss_one (ps_if (pt_cmpR op_eq (pv 2) pe_str (nomark _)) (pss_one (ps_expr (pe_bm PySem.F.plainAttrs_list PySem.F.slot_list_append PySem.F.type_list_append mt_append (pv 1) (pa_cons (pv 3) pa_nil))))
            (pss_one (ps_if (pt_cmpR op_eq (pv 2) pe_str (nomark _)) (pss_one (ps_expr (pe_bm PySem.F.plainAttrs_list PySem.F.slot_list_extend PySem.F.type_list_extend mt_extT (pv 1) (pa_cons (pv 3) pa_nil)))) pss_nil)))))
      (pss_one (ps_ret (pv 1)))), ?_⟩
    have bl := (box_mem h6 hW).1
    obtain ⟨k0, ps, rfl, hk, hp⟩ := wd_form hW
    obtain ⟨tA, hd, hS⟩ := M.k _ _ hk
    have pl := hp.len
    have fl := frm_len k0
    refine ⟨(by show 0 ≤ sizeLine; decide), fun F nF => ?_⟩
    obtain ⟨y1, hF1⟩ := nw (o := .lst []) nF
    cases hT with
    | tup hs ha =>
      rename_i a xs
      cases ha with
      | cons a1 a2 =>
        cases a1
        rename_i rest
        have rl := a2.len
        refine ⟨.ref a, rfl, a, _, 0, _, rfl, rfl, y1.seqT hs, atN (j := 0) rfl, fA, k0, .ref tA, rfl, rfl, hd, ?_⟩
        refine ⟨.ref a, rfl, 1, rfl, a, _, rfl, y1.seqT hs, fun z => absurd z one_cut, fun _ B nB => ?_⟩
        rw [cut_one]
        obtain ⟨y2, hB2⟩ := nw (o := .tup rest) nB
        have hF2 := y2.lst hF1
        have x2 : Ex [] H _ := y1.trans y2
        refine ⟨tA, B, (frm k0).map V.str, rest, rfl, .inr ⟨hS _, .of hB2, for_zipT (a := tA) (b := B) (xs := (frm k0).map V.str) (ys := rest) (by rw [List.length_map]; omega) (fun i σ H3 => ∃ (y2 y3 : Option V), σ = [some (.ref a), some (.ref F), y2, y3] ∧
          H3 F = some (.lst (((((frm k0).zip ps).take i).flatMap stp).map V.str)) ∧ Ex [F] (upd (upd H F (.lst [])) B (.tup rest)) H3) ?_ ?_ ?_ ?_⟩⟩
        · exact ⟨_, _, rfl, hF2, .refl⟩
        · rintro i σ H3 ⟨y2, y3, _, _, x3⟩
          exact ⟨hS _, .of (x3.tup hB2)⟩
        · rintro i x y T σ H3 hx hy ⟨y2', y3', rfl, hF3, x3⟩ nT
          obtain ⟨d, hd1, td⟩ := a2.get hy
          rw [List.getElem?_map] at hx
          cases hkd : (frm k0)[i]? with
          | none => rw [hkd] at hx; cases hx
          | some kd =>
            rw [hkd] at hx
            cases hx
            have hpt := hp.at hkd hd1
            have hz : ((frm k0).zip ps)[i]? = some (kd, d) := List.getElem?_zip_eq_some.mpr ⟨hkd, hd1⟩
            have et : ((((frm k0).zip ps).take (i + 1)).flatMap stp) = ((((frm k0).zip ps).take i).flatMap stp) ++ stp (kd, d) := by
              rw [List.take_add_one, hz, List.flatMap_append]; simp
            have i3 : i < (frm k0).length := (List.getElem?_eq_some_iff.mp hkd).1
            have lz : ((((frm k0).zip ps).take i).flatMap stp).length ≤ 18 := by
              have := flat_le stp 6 (((frm k0).zip ps).take i) fun q hq => by
                obtain ⟨j, hj, e⟩ := List.mem_iff_getElem.mp (List.mem_of_mem_take hq)
                have e' := List.getElem?_eq_getElem hj
                rw [e, List.getElem?_zip_eq_some] at e'
                exact (stp_le h6 (hp.at e'.1 e'.2)).1
              rw [List.length_take] at this
              have m3 : min i ((frm k0).zip ps).length ≤ 3 := by omega
              exact Nat.le_trans this (Nat.mul_le_mul_right 6 m3)
            obtain ⟨yT, hT⟩ := nw (o := .tup [.str kd, y]) nT
            have hF4 := yT.lst hF3
            have td4 := ((td.ex x2).ex x3).ex yT
            have sl : ∀ n : Nat, n ≤ 1000 → n < sizeLine := fun n h => Nat.lt_of_le_of_lt h (by decide)
            refine ⟨T, _, rfl, .of hT, rfl, _, _, rfl, _, _, rfl, rfl, ?_⟩
            refine ⟨.str kd, rfl, rfl, _, rfl, ?_⟩
            rcases hpt with ⟨rfl, x, rfl, hx⟩ | ⟨rfl, xs', rfl, hx⟩ | ⟨n1, n2⟩
            · refine itD rfl ?_
              cases td4
              refine ⟨.ref F, rfl, .inl ⟨rfl, _, .of hF4⟩, .str x, rfl, F, _, _, rfl, rfl, hF4, by rw [List.length_map]; exact sl _ (by omega), ?_⟩
              obtain ⟨z5, hF5⟩ := pw (o := .lst (((((frm k0).zip ps).take i).flatMap stp).map V.str ++ [.str x])) hF4
              refine ⟨_, _, rfl, ?_, (x3.trans yT.nil).trans z5⟩
              rw [hF5, et, List.map_append]; rfl
            · refine itN (fun e => absurd (V.str.inj e) (by decide +kernel)) ?_
              refine ⟨_, rfl, rfl, _, rfl, itD rfl ?_⟩
              cases td4 with
              | tup hu hau =>
                rename_i b zs
                have ezs : zs = xs'.map V.str := by
                  clear hu
                  generalize xs' = ww at hau
                  induction zs generalizing ww with
                  | nil => cases ww with | nil => rfl | cons _ _ => cases hau
                  | cons z zs ih =>
                    cases ww with
                    | nil => cases hau
                    | cons q ww =>
                      cases hau with
                      | cons e1 e2 => cases e1; rw [ih ww e2]; rfl
                have lx := sub_len hx h6
                have e9 : stp (Str.ofString "boxes", tsL xs') = xs' := by
                  rw [stp_mk, if_neg (by decide +kernel), if_pos rfl]; exact tStr_map xs'
                refine ⟨.ref F, rfl, .inl ⟨rfl, _, .of hF4⟩, .ref b, rfl, F, b, _, zs, rfl, rfl, hF4, hu, ?_, ?_⟩
                · rw [List.length_map, ezs, List.length_map]; exact Nat.le_of_lt (sl _ (by omega))
                obtain ⟨z5, hF5⟩ := pw (o := .lst (((((frm k0).zip ps).take i).flatMap stp).map V.str ++ zs)) hF4
                refine ⟨_, _, rfl, ?_, (x3.trans yT.nil).trans z5⟩
                rw [hF5, et, List.map_append, e9, ezs]
            · refine itN (fun e => n1 (V.str.inj e)) ?_
              refine ⟨_, rfl, rfl, _, rfl, itN (fun e => n2 (V.str.inj e)) ?_⟩
              refine ⟨_, _, rfl, ?_, x3.trans yT.nil⟩
              rw [hF4, et]
              have e9 : stp (kd, d) = [] := by rw [stp_mk, if_neg n1, if_neg n2]
              rw [e9, List.append_nil]
        · rintro σ H3 ⟨y2', y3', rfl, hF3, x3⟩
          have hz : ((frm k0).zip ps).length = ((frm k0).map V.str).length := by rw [List.length_zip, List.length_map]; omega
          rw [← hz, List.take_length] at hF3
          exact ⟨_, rfl, q H3 F nF (Ex.own nF (Ex.refl) (x2.nil.trans x3)) hF3⟩
end
end K41

set_option maxHeartbeats 8000000
namespace Kk
open PySem PySem.Spec PyProof.Rows L2
theorem tyes_if {σ : L2.St} {H : Hp} {N tb : Hp → Prop} (h : tb H) : tYes σ H (fun b H3 => if b = true then tb H3 else N H3) := by
  show (if true = true then tb H else N H)
  rw [if_pos rfl]; exact h
theorem pi_tupK {X : Cx} {K : PySem.W.Frag} {tg l : Expr} {tl : TE} (h : X.K = K) (hl : PE X l tl) : PI X tg l (iTup K tl) := by subst h; exact pi_tup hl
theorem pi_listK {X : Cx} {K : PySem.W.Frag} {tg l : Expr} {tl : TE} (h : X.K = K) (hl : PE X l tl) : PI X tg l (iList K tl) := by subst h; exact pi_list hl
section
variable {K : PySem.W.Frag} {a : Addr} {xs : List V} {g : TG} {tt : TT} {tb : L2.St → Hp → (Hp → Prop) → Prop} {vs : List Nat} {σ : L2.St} {H : Hp} {Nx : Hp → Prop}
theorem lv_tup (Pv : Nat → Hp → Prop) (h0 : Pv 0 H) (hl : ∀ i H, i ≤ xs.length → Pv i H → SqT K H a xs)
    (hs : ∀ i x H, xs[i]? = some x → Pv i H → g x (wipe σ vs) H fun σ2 H2 => wipe σ2 vs = wipe σ vs ∧ tt σ2 H2 fun b H3 => if b = true then tb σ2 H3 (Pv (i + 1)) else Pv (i + 1) H3) (hd : ∀ H, Pv xs.length H → Nx H) :
    ∃ W : Nat → Nat → Hp → Prop, (∃ m, W 0 m H) ∧ ∀ i m H, W i m H → ((Itt K a).stop i H ∧ Nx H) ∨ ((Itt K a).go i H ∧ ∃ N1 : Hp → Prop, (∀ H', N1 H' → ∃ m', m' < m ∧ W (i + 1) m' H') ∧
      ∀ x H', (Itt K a).yld i H x H' → g x (wipe σ vs) H' fun σ2 H2 => wipe σ2 vs = wipe σ vs ∧ tt σ2 H2 fun b H3 => if b = true then tb σ2 H3 N1 else N1 H3) := by
  refine ⟨fun i m H => m = xs.length - i ∧ i ≤ xs.length ∧ Pv i H, ⟨xs.length, by simp, Nat.zero_le _, h0⟩, ?_⟩
  rintro i m H ⟨rfl, hi, p⟩
  have q := hl i H hi p
  by_cases hlt : i < xs.length
  · refine .inr ⟨⟨xs, xs[i], q, by simp [hlt]⟩, Pv (i + 1), fun H' p' => ⟨xs.length - (i + 1), by omega, rfl, hlt, p'⟩, fun x H' y => ?_⟩
    obtain ⟨e, y⟩ := y
    subst e
    exact hs i x _ (y xs q) p
  · obtain rfl : i = xs.length := by omega
    exact .inl ⟨⟨xs, q, Nat.le_refl _⟩, hd H p⟩
theorem lv_list (Pv : Nat → Hp → Prop) (h0 : Pv 0 H) (hl : ∀ i H, i ≤ xs.length → Pv i H → SqL K H a xs)
    (hs : ∀ i x H, xs[i]? = some x → Pv i H → g x (wipe σ vs) H fun σ2 H2 => wipe σ2 vs = wipe σ vs ∧ tt σ2 H2 fun b H3 => if b = true then tb σ2 H3 (Pv (i + 1)) else Pv (i + 1) H3) (hd : ∀ H, Pv xs.length H → Nx H) :
    ∃ W : Nat → Nat → Hp → Prop, (∃ m, W 0 m H) ∧ ∀ i m H, W i m H → ((Itl K a).stop i H ∧ Nx H) ∨ ((Itl K a).go i H ∧ ∃ N1 : Hp → Prop, (∀ H', N1 H' → ∃ m', m' < m ∧ W (i + 1) m' H') ∧
      ∀ x H', (Itl K a).yld i H x H' → g x (wipe σ vs) H' fun σ2 H2 => wipe σ2 vs = wipe σ vs ∧ tt σ2 H2 fun b H3 => if b = true then tb σ2 H3 N1 else N1 H3) := by
  refine ⟨fun i m H => m = xs.length - i ∧ i ≤ xs.length ∧ Pv i H, ⟨xs.length, by simp, Nat.zero_le _, h0⟩, ?_⟩
  rintro i m H ⟨rfl, hi, p⟩
  have q := hl i H hi p
  by_cases hlt : i < xs.length
  · refine .inr ⟨⟨xs, xs[i], q, by simp [hlt]⟩, Pv (i + 1), fun H' p' => ⟨xs.length - (i + 1), by omega, rfl, hlt, p'⟩, fun x H' y => ?_⟩
    obtain ⟨e, y⟩ := y
    subst e
    exact hs i x _ (y xs q) p
  · obtain rfl : i = xs.length := by omega
    exact .inl ⟨⟨xs, q, Nat.le_refl _⟩, hd H p⟩
end
end Kk
namespace K41
open PySem PySem.Spec PyProof.Rows L2 Kk RZ
abbrev s_boxes_in : Stmt := topS 19
abbrev n_boxes_in : List Str := ["row", "inner", "word", "box"]
theorem sc_boxes_in : FnScope n_boxes_in ["row"] (defScope s_boxes_in) := ⟨rfl, rfl, rfl, by decide +kernel, rfl, by decide +kernel, by decide +kernel⟩
def bxR (r : PyData) : List Str := (itm r).flatMap boxD
def bxAll (m : Nat) (r : PyData) : List Str := (allR m r).flatMap bxR
theorem frm3 : ∀ p ∈ formT, p.2.length ≤ 2 ∨ p.2 = ["box", "box", "box"].map Str.ofString ∨ p.2 = ["name", "boxes", "boxes"].map Str.ofString := by decide +kernel
theorem stp_one {D : Dm} {p : PyData} (h : Pt D (Str.ofString "box") p) : (stp (Str.ofString "box", p)).length ≤ 1 := by
  rw [stp_mk, if_pos rfl]
  rcases h with ⟨_, x, rfl, hx⟩ | ⟨e, _⟩ | ⟨n1, _⟩
  · exact Nat.le_refl 1
  · exact absurd e (by decide +kernel)
  · exact absurd rfl n1
theorem stp_name {p : PyData} : stp (Str.ofString "name", p) = [] := by rw [stp_mk, if_neg (by decide +kernel), if_neg (by decide +kernel)]
theorem box_len {D : Dm} {m l : Nat} {w : PyData} (h6 : D.boxes.length = 6) (h : Wd D m l w) : (boxD w).length ≤ 12 := by
  obtain ⟨k, ps, rfl, hk, hp⟩ := wd_form h
  show (((frm k).zip ps).flatMap stp).length ≤ 12
  rcases frm3 _ hk with z | z | z
  · have z : (frm k).length ≤ 2 := z
    have := flat_le stp 6 ((frm k).zip ps) fun q hq => by
      obtain ⟨i, hi, e⟩ := List.mem_iff_getElem.mp hq
      have e' := List.getElem?_eq_getElem hi
      rw [e, List.getElem?_zip_eq_some] at e'
      exact (stp_le h6 (hp.at e'.1 e'.2)).1
    rw [List.length_zip] at this
    have h2 : min (frm k).length ps.length ≤ 2 := by omega
    exact Nat.le_trans this (Nat.mul_le_mul_right 6 h2)
  · have z : frm k = [Str.ofString "box", Str.ofString "box", Str.ofString "box"] := z
    rw [z] at hp ⊢
    cases hp with
    | cons a1 r1 =>
      cases r1 with
      | cons a2 r2 =>
        cases r2 with
        | cons a3 r3 =>
          cases r3
          have b1 := stp_one a1
          have b2 := stp_one a2
          have b3 := stp_one a3
          simp only [List.zip_cons_cons, List.zip_nil_right, List.flatMap_cons, List.flatMap_nil, List.length_append, List.length_nil]
          omega
  · have z : frm k = [Str.ofString "name", Str.ofString "boxes", Str.ofString "boxes"] := z
    rw [z] at hp ⊢
    cases hp with
    | cons a1 r1 =>
      cases r1 with
      | cons a2 r2 =>
        cases r2 with
        | cons a3 r3 =>
          cases r3
          have b2 := (stp_le h6 a2).1
          have b3 := (stp_le h6 a3).1
          simp only [List.zip_cons_cons, List.zip_nil_right, List.flatMap_cons, List.flatMap_nil, List.length_append, List.length_nil, stp_name]
          omega
theorem bxR_le {D : Dm} {m l : Nat} {ws : List PyData} (h6 : D.boxes.length = 6) (hc : ws.length ≤ 320) (hw : ∀ w ∈ ws, Wd D m l w) : (ws.flatMap boxD).length ≤ 3840 := by
  have := flat_le boxD 12 ws fun q hq => box_len h6 (hw q hq)
  exact Nat.le_trans this (Nat.mul_le_mul_right 12 hc)
section
variable {P : Program} {w : World} {K : PySem.W.Frag} {mg : Str → Option Value} {base : Heap}
def spBoxesIn (K : PySem.W.Frag) : Sp := fun vs H Q _ => ∃ (v : V) (r : PyData) (D : Dm) (m l : Nat), vs = [v] ∧ Tp K H v r ∧ Rw D 320 m l r ∧ m ≤ 1 ∧ D.boxes.length = 6 ∧
  ∀ H' u ys, Ex [] H H' → Tp K H' u (tsL ys) → sortedS ys = true → ys.Nodup → (∀ x, x ∈ ys ↔ x ∈ bxAll m r) → Q u H'
theorem ok_boxes_in {f fA fB : Addr} {fd fdA fdB : FuncData} {k : Nat} (F : Fun K "boxes_in" "boxes_in" s_boxes_in f fd) (CA : Cl P w K mg base k "all_rows" ["row"] (spAllRows K) fA fdA) (CB : Cl P w K mg base k "boxes_of" ["word"] (spBoxesOf K) fB fdB)
    (m_set : mg "set" = none) (m_sorted : mg "sorted" = none) (m_tuple : mg "tuple" = none) : FnOk P w K mg base CX0 (k + 1) f fd ["row"] (spBoxesIn K) := by
  refine F.ok sc_boxes_in (fun vs H Q E h => ?_) (fun cdv A outer s H vs Q E hr h => ?_)
  · obtain ⟨v, r, D, m, l, rfl, _⟩ := h; rfl
  · obtain ⟨v, r, D, m, l, rfl, hT, hR, hm, h6, q⟩ := h
    refine ⟨_, pss_one (ps_ret (pe_callTy call_tuple_of (by rfl) m_tuple (by decide +kernel) (pa_cons (pe_callB (call_sortSetS rfl) (by rfl) m_sorted (by decide +kernel) (pa_cons (pe_callTy (call_setS rfl) (by rfl) m_set (by decide +kernel) (pa_cons
      (pe_lc3 (own := [("inner", 1), ("word", 2), ("box", 3)]) (vs1 := [2, 3]) (vs2 := [3]) (g := gName 1) (g1 := gName 2) (g2 := gName 3) (tt := tYes) (tt1 := tYes) (tt2 := tYes) rfl sc_boxes_in.nd
        (pi_list (pe_call CA.g hr (by rfl) CA.m CA.k CA.b .nil pass0 (pa_cons (pv 0) pa_nil))) (blkOk_by (N := n_boxes_in) (sc := defScope s_boxes_in) (by decide +kernel)) (by decide) (by decide)
        (fun _ _ _ _ _ => pg_name (i := 1) sc_boxes_in.nd rfl (Or.inl rfl)) (fun _ _ _ _ _ => pts_nil) (fun _ _ _ _ _ => pi_tupK (K := K) rfl (pv 1)) (fun _ _ _ _ _ => pg_name (i := 2) sc_boxes_in.nd rfl (Or.inl rfl)) (fun _ _ _ _ _ => pts_nil)
        (fun _ _ _ _ _ => pi_listK (K := K) rfl (pe_call CB.g hr (by rfl) CB.m CB.k CB.b .nil pass0 (pa_cons (pv 2) pa_nil))) (fun _ _ _ _ _ => pg_name (i := 3) sc_boxes_in.nd rfl (Or.inl rfl)) (fun _ _ _ _ _ => pts_nil)
        (fun _ _ _ _ _ => pv 3)) pa_nil)) pa_nil)) pa_nil))), ?_⟩
    have big := all_big hm hR
    have sml : ∀ n : Nat, n ≤ 14500000 → n < sizeLine := fun n h => Nat.lt_of_le_of_lt h (by decide)
    refine ⟨v, rfl, v, r, D, m, l, rfl, hT, hR, hm, fun H1 p us fs np x1 hp tF pf => ⟨p, rfl, ⟨us, .of hp⟩, fun Dd nD => ?_⟩⟩
    have hrw : ∀ x ∈ fs, ∃ m' l' ws, x = .tuple ws ∧ ws.length ≤ 320 ∧ ∀ w ∈ ws, Wd D m' l' w := fun x hx => by
      obtain ⟨m', l', _, ws, e⟩ := all_rw m 320 l r (by decide) hR x (pf.mem_iff.mp hx)
      exact ⟨m', l', ws, e⟩
    have lf : us.length = fs.length := tF.len
    have lfs : fs.length ≤ 1300 := by rw [pf.length_eq]; exact big
    have hbx : ∀ x ∈ fs, (bxR x).length ≤ 3840 := fun x hx => by
      obtain ⟨m', l', ws, rfl, c, hw⟩ := hrw x hx
      exact bxR_le h6 c hw
    have pD : p ≠ Dd := ne_of_none hp nD
    obtain ⟨y0, hD0⟩ := nw (o := .lst []) nD
    generalize upd H1 Dd (.lst []) = H10 at y0 hD0
    have tF0 := tF.ex y0
    have hp0 := y0.lst hp
    refine lv_list (a := p) (xs := us) (fun i H2 => H2 Dd = some (.lst (((fs.take i).flatMap bxR).map V.str)) ∧ Ex [Dd] H10 H2) ⟨hD0, .refl⟩ (fun i H2 _ h2 => .of (h2.2.lst hp0 (by simpa using pD))) (fun i x H2 hx h2 => ?_) (fun H2 h2 => ?_)
    · obtain ⟨hD2, x2⟩ := h2
      obtain ⟨d, hd, td⟩ := tF0.get hx
      obtain ⟨m', l', ws, rfl, c12, hw⟩ := hrw d (List.mem_of_getElem? hd)
      have hi : i < fs.length := (List.getElem?_eq_some_iff.mp hd).1
      have eti : (fs.take (i + 1)).flatMap bxR = (fs.take i).flatMap bxR ++ ws.flatMap boxD := by
        rw [List.take_add_one, hd, List.flatMap_append]; simp [bxR, itm]
      have lB : ((fs.take i).flatMap bxR).length ≤ i * 3840 := by
        have := flat_le bxR 3840 (fs.take i) fun q hq => hbx q (List.mem_of_mem_take hq)
        rw [List.length_take] at this
        exact Nat.le_trans this (Nat.mul_le_mul_right 3840 (Nat.min_le_left _ _))
      refine ⟨rfl, tyes_if ?_⟩
      cases td with
      | tup hs ha =>
        rename_i a ts
        refine ⟨.ref a, rfl, a, rfl, ⟨ts, x2.seqT hs⟩, lv_tup (a := a) (xs := ts) (fun j H3 => H3 Dd = some (.lst (((fs.take i).flatMap bxR ++ (ws.take j).flatMap boxD).map V.str)) ∧ Ex [Dd] H10 H3) ⟨by rw [hD2]; simp, x2⟩ (fun j H3 _ h3 => h3.2.seqT hs) (fun j x3 H3 hx3 h3 => ?_) (fun H3 h3 => ?_)⟩
        · obtain ⟨hD3, x3'⟩ := h3
          obtain ⟨wd, hwd, tw⟩ := ha.get hx3
          have hj : j < ws.length := (List.getElem?_eq_some_iff.mp hwd).1
          have hW := hw wd (List.mem_of_getElem? hwd)
          have etj : (ws.take (j + 1)).flatMap boxD = (ws.take j).flatMap boxD ++ boxD wd := by
            rw [List.take_add_one, hwd, List.flatMap_append]; simp
          have lJ : ((ws.take j).flatMap boxD).length ≤ j * 12 := by
            have := flat_le boxD 12 (ws.take j) fun q hq => box_len h6 (hw q (List.mem_of_mem_take hq))
            rw [List.length_take] at this
            exact Nat.le_trans this (Nat.mul_le_mul_right 12 (Nat.min_le_left _ _))
          have lw := box_len h6 hW
          refine ⟨rfl, tyes_if ?_⟩
          refine ⟨x3, rfl, x3, wd, D, m', l', rfl, tw.ex x3', hW, h6, fun H4 pB nB x4 hB => ⟨pB, rfl, ⟨_, .of hB⟩, ?_⟩⟩
          have hD4 := x4.lst hD3
          have BD : pB ≠ Dd := (ne_of_none hD3 nB).symm
          refine lv_list (a := pB) (xs := (boxD wd).map V.str) (fun z H5 => H5 Dd = some (.lst (((fs.take i).flatMap bxR ++ (ws.take j).flatMap boxD ++ (boxD wd).take z).map V.str)) ∧ Ex [Dd] H4 H5) ⟨by rw [hD4]; simp, .refl⟩ (fun z H5 _ h5 => .of (h5.2.lst hB (by simpa using BD))) (fun z x5 H5 hx5 h5 => ?_) (fun H5 h5 => ?_)
          · obtain ⟨hD5, x5'⟩ := h5
            rw [List.getElem?_map] at hx5
            cases hb : (boxD wd)[z]? with
            | none => rw [hb] at hx5; cases hx5
            | some bx =>
              rw [hb] at hx5
              cases hx5
              have hz : z < (boxD wd).length := (List.getElem?_eq_some_iff.mp hb).1
              refine ⟨rfl, tyes_if ?_⟩
              refine ⟨.str bx, rfl, _, hD5, ?_, ?_⟩
              · rw [List.length_map, List.length_append, List.length_append, List.length_take]
                exact sml _ (by omega)
              · obtain ⟨z6, hD6⟩ := pw (o := .lst (((fs.take i).flatMap bxR ++ (ws.take j).flatMap boxD ++ (boxD wd).take z).map V.str ++ [.str bx])) hD5
                refine ⟨?_, x5'.trans z6⟩
                rw [hD6, List.take_add_one, hb]
                simp
          · obtain ⟨hD5, x5'⟩ := h5
            rw [List.length_map, List.take_length] at hD5
            refine ⟨?_, (x3'.trans x4.nil).trans x5'⟩
            rw [hD5, etj, List.append_assoc]
        · obtain ⟨hD3, x3'⟩ := h3
          rw [ha.len, List.take_length] at hD3
          exact ⟨by rw [hD3, eti], x3'⟩
    · obtain ⟨hD2, x2⟩ := h2
      rw [lf, List.take_length] at hD2
      have mem : ∀ x, x ∈ fs.flatMap bxR ↔ x ∈ bxAll m r := fun x => by
        unfold bxAll
        simp only [List.mem_flatMap]
        exact ⟨fun ⟨a, h1, h2⟩ => ⟨a, pf.mem_iff.mp h1, h2⟩, fun ⟨a, h1, h2⟩ => ⟨a, pf.mem_iff.mpr h1, h2⟩⟩
      have hsub : ∀ x ∈ fs.flatMap bxR, x ∈ D.boxes := fun x hx => by
        obtain ⟨r', h1, h2⟩ := List.mem_flatMap.mp hx
        obtain ⟨m', l', ws, rfl, c, hw⟩ := hrw r' h1
        obtain ⟨wd, h3, h4⟩ := List.mem_flatMap.mp h2
        exact (box_mem h6 (hw wd h3)).2 x h4
      have nDH : H Dd = none := x1.f Dd nD
      have x02 : Ex [] H H2 := Ex.own nDH (x1.trans y0) x2
      refine ⟨Dd, fs.flatMap bxR, D.boxes, rfl, .of hD2, hsub, by omega, fun S nS => ?_⟩
      have zS : Ex [] H2 (upd H2 S (SetS w S (fs.flatMap bxR))) := .new nS
      refine ⟨S, fs.flatMap bxR, D.boxes, rfl, upd_same, hsub, by omega, fun ys pL s1 s2 s3 nL => ?_⟩
      obtain ⟨zL, hL⟩ := nw (o := .lst (ys.map V.str)) nL
      refine ⟨pL, _, rfl, .inl ⟨.of hL, fun T nT => ?_⟩⟩
      exact q _ _ ys (((x02.trans zS).trans zL).trans (.new nT)) (.tup (.of upd_same) (TpAll.strs ys)) s1 s2 (fun x => (s3 x).trans (mem x))
end
end K41

set_option maxHeartbeats 4000000
namespace Kk
open PySem PySem.Spec PyProof.Rows L2 RZ
theorem Ex.onto {H H1 H' : Hp} {xs ys : List Addr} (n : ∀ b ∈ ys, b ∈ xs ∨ H b = none) (e : Ex xs H H1) (a : Ex ys H1 H') : Ex xs H H' :=
  ⟨fun b o nb h t => a.a b o (fun m => (n b m).elim nb (fun z => by rw [z] at h; cases h)) (e.a b o nb h t) t, fun b o h g => a.c b o (e.c b o h g) g, fun b h => a.t b (e.t b h), fun b h => e.f b (a.f b h)⟩
theorem pg_tupK {X : Cx} {K : PySem.W.Frag} {es : List Expr} {k : Nat} {t : TGs} {n : Nat} {pos : Pos} (hK : X.K = K) (hc : X.calm = true) (h : PGs X es t) (hn : (assignEach es X.env).length = n := by rfl) (hst : (assignEach es X.env).findIdx? (·.1) = none := by rfl) :
    PG X (.Tuple es k pos) (gTup K n t) := by subst hK; exact pg_tup hc h hn hst
/-- a list comprehension whose elements are data, each made from its item; I: what else is kept -/
theorem lc_data {K : PySem.W.Frag} {J : It} {n : Nat} {G : Hp → Prop} {Y : Nat → Hp → V → Hp → Prop} (wk : Walk J n G Y) {g : TG} {te : TE} {vs : List Nat} {σ : L2.St} {H1 : Hp} {D : Addr} {Qd : Hp → Prop} {xs : List Addr} {ds : List PyData} (I : Nat → Hp → Prop)
    (nD : H1 D = none) (hx : ∀ b ∈ xs, H1 b ≠ none) (hn : n = ds.length) (hz : n < sizeLine)
    (hG : ∀ i H, Ex xs H1 H → I i H → G H) (h0 : ∀ H, Ex [] H1 H → I 0 H) (hI : ∀ i H H' acc, I i H → H D = some (.lst acc) → Ex [D] H H' → I i H')
    (hs : ∀ i d x H H' (R : V → Hp → Prop) (N : Hp → Prop), ds[i]? = some d → Ex xs H1 H → I i H → Y i H x H' → (∀ y H4, Ex xs H H4 → Tp K H4 y d → I (i + 1) H4 → R y H4) → g x (wipe σ vs) H' fun σ2 H2 => wipe σ2 vs = wipe σ vs ∧ tYes σ2 H2 fun b H3 => if b = true then te σ2 H3 R else N H3)
    (hd : ∀ H' acc, Ex xs H1 H' → H' D = some (.lst acc) → TpAll K H' acc ds → I n H' → Qd H') :
    ∃ W : Nat → Nat → Hp → Prop, (∃ m, W 0 m (upd H1 D (.lst []))) ∧ ∀ i m H, W i m H →
      (J.stop i H ∧ Qd H) ∨ (J.go i H ∧ ∃ Nx : Hp → Prop, (∀ H', Nx H' → ∃ m', m' < m ∧ W (i + 1) m' H') ∧ ∀ x H', J.yld i H x H' → g x (wipe σ vs) H' fun σ2 H2 => wipe σ2 vs = wipe σ vs ∧ tYes σ2 H2 fun b H3 =>
        if b = true then te σ2 H3 fun y H4 => ∃ acc, H4 D = some (.lst acc) ∧ acc.length < sizeLine ∧ Nx (upd H4 D (.lst (acc ++ [y]))) else Nx H3) := by
  have nDx : D ∉ xs := fun m => hx D m nD
  have y0 : Ex [] H1 (upd H1 D (.lst [])) := .new nD
  refine lc_it wk (fun i H => ∃ acc, H D = some (.lst acc) ∧ TpAll K H acc (ds.take i) ∧ Ex xs H1 H ∧ I i H ∧ i ≤ n) ⟨[], upd_same, .nil, y0.nil, h0 _ y0, Nat.zero_le _⟩ (fun i H hi ⟨acc, a1, a2, a3, a4, _⟩ => hG i H a3 a4) (fun i x H H' hi ⟨acc, a1, a2, a3, a4, _⟩ hy => ?_) (fun H ⟨acc, a1, a2, a3, a4, _⟩ => ?_)
  · have hd' : ds[i]? = some ds[i] := List.getElem?_eq_getElem (by omega)
    refine hs i ds[i] x H H' _ _ hd' a3 a4 hy fun y H4 x4 t4 i4 => ?_
    have a1' := x4.lst a1 nDx
    refine ⟨acc, a1', ?_, ?_⟩
    · rw [a2.len, List.length_take]; omega
    · have z : Ex [D] H4 (upd H4 D (.lst (acc ++ [y]))) := .put a1' nt_lst (by simp)
      refine ⟨acc ++ [y], upd_same, ?_, ?_, hI _ _ _ _ i4 a1' z, hi⟩
      · rw [List.take_add_one, hd']
        exact ((a2.ex x4).app (.cons t4 .nil)).ex z
      · exact Ex.own nD (a3.trans x4) (z.mono fun b hb => by simp at hb; simp [hb])
  · rw [hn, List.take_length] at a2
    exact hd H acc a3 a1 a2 a4
end Kk

set_option maxHeartbeats 8000000
namespace Kk
open PySem PySem.Spec PyProof.Rows L2
theorem all_yes (n : Nat) : (List.range n).all (fun _ => true) = true := by simp
/-- a tuple held against itself -/
theorem op_ne_self {X : Cx} {k : Nat} (hr : Room k X.A) : OpR X (compareOp .NotEq) (fun x y H Q => ∃ a xs, x = .ref a ∧ y = .ref a ∧ SqT X.K H a xs ∧ Q (.bl false) H) := by
  intro pins s σ H x y v u Q I rx ry h
  obtain ⟨a, xs, rfl, rfl, ha, q⟩ := h
  cases (show v = Value.ref a from rx)
  cases (show u = Value.ref a from ry)
  obtain ⟨its, r, pt, hz⟩ := I.tuple ha
  refine SeqAt.RcNeAt.tuples (e := fun _ => true) pt pt hr.units0 (fun j h1 _ => SeqAt.EqAt.same _) X.prog X.w X.xe _ ⟨.bl false, H, I, ?_, q⟩
  rw [all_yes]; simp; rfl
/-- two tuples of the same texts -/
theorem op_eq_strs {X : Cx} {k : Nat} (hr : Room k X.A) : OpR X (compareOp .Eq) (fun x y H Q => ∃ (a b : Addr) (ws : List Str), x = .ref a ∧ y = .ref b ∧ SqT X.K H a (ws.map V.str) ∧ SqT X.K H b (ws.map V.str) ∧ Q (.bl true) H) := by
  intro pins s σ H x y v u Q I rx ry h
  obtain ⟨a, b, ws, rfl, rfl, ha, hb, q⟩ := h
  cases (show v = Value.ref a from rx)
  cases (show u = Value.ref b from ry)
  obtain ⟨its, r, pt, hz⟩ := I.tuple ha
  obtain ⟨its2, r2, pt2, hz2⟩ := I.tuple hb
  have l1 : its.length = ws.length := by rw [← r.length, List.length_map]
  have l2 : its2.length = ws.length := by rw [← r2.length, List.length_map]
  refine SeqAt.eq_tupleAt (e := fun _ => true) pt pt2 hr.units0 (fun j h1 h2 => ?_) ⟨.bl true, H, I, ?_, q⟩
  · have hj : j < ws.length := by simpa [l1] using h1
    have e : (ws.map V.str)[j]? = some (.str ws[j]) := by rw [List.getElem?_map, List.getElem?_eq_getElem hj]; rfl
    obtain ⟨u1, hu1, ru1⟩ := r.get e
    obtain ⟨u2, hu2, ru2⟩ := r2.get e
    obtain ⟨t1, rfl⟩ := (show ∃ t, u1 = Value.str ws[j] t from ru1)
    obtain ⟨t2, rfl⟩ := (show ∃ t, u2 = Value.str ws[j] t from ru2)
    have e1 : its.toArray[j] = .str ws[j] t1 := by
      have := (List.getElem?_eq_some_iff.mp hu1).2
      simpa using this
    have e2 : its2.toArray[j] = .str ws[j] t2 := by
      have := (List.getElem?_eq_some_iff.mp hu2).2
      simpa using this
    rw [e1, e2]
    have := SeqAt.EqAt.str_str (A := X.A.in1) (s := s) ws[j] t1 ws[j] t2
    rwa [beq_self_eq_true] at this
  · rw [all_yes]
    have : (its.toArray.size == its2.toArray.size) = true := by simp [l1, l2]
    rw [this]; rfl
theorem cr_sumK {X : Cx} {K : PySem.W.Frag} (h : X.K = K) (hc : X.calm = true) : CallR X (.builtin "sum") (rSum K) := by subst h; exact cr_sum hc
end Kk
namespace K41
open PySem PySem.Spec PyProof.Rows L2 Kk RZ
abbrev s_def_of : Stmt := topS 20
theorem sc_def_of : FnScope ["program", "name", "one"] ["program", "name"] (defScope s_def_of) := ⟨rfl, rfl, rfl, by decide +kernel, rfl, by decide +kernel, by decide +kernel⟩
structure DfX where
  a : Str
  xs : List Str
  ys : List Str
  ws : List PyData
def DfX.d (x : DfX) : PyData := .tuple [.str x.a, tsL x.xs, tsL x.ys, .tuple x.ws]
def DfX.k (x : DfX) : Str × Nat × Nat := (x.a, x.xs.length, x.ys.length)
def progD (ds : List DfX) (main : List PyData) : PyData := .tuple [.tuple (ds.map DfX.d), .tuple main]
/-- a program's parts -/
structure Pg (K : PySem.W.Frag) (H : Hp) (p q : Addr) (ds : List DfX) (main : List PyData) (xs : List V) (rv : V) : Prop where
  s : SqT K H p [.ref q, rv]
  t : SqT K H q xs
  d : TpAll K H xs (ds.map DfX.d)
  r : Tp K H rv (.tuple main)
theorem Pg.ex {K : PySem.W.Frag} {H H' : Hp} {p q : Addr} {ds : List DfX} {main : List PyData} {xs : List V} {rv : V} {as : List Addr} (h : Pg K H p q ds main xs rv) (e : Ex as H H') : Pg K H' p q ds main xs rv := ⟨e.seqT h.s, e.seqT h.t, h.d.ex e, h.r.ex e⟩
theorem pg_of {K : PySem.W.Frag} {H : Hp} {v : V} {ds : List DfX} {main : List PyData} (h : Tp K H v (progD ds main)) : ∃ p q xs rv, v = .ref p ∧ Pg K H p q ds main xs rv := by
  unfold progD at h
  cases h with
  | tup hs ha =>
    cases ha with
    | cons a1 a2 =>
      cases a2 with
      | cons b1 b2 =>
        cases b2
        cases a1 with
        | tup hs1 ha1 => exact ⟨_, _, _, _, rfl, hs, hs1, ha1, b1⟩
theorem Pg.at {K : PySem.W.Frag} {H : Hp} {p q : Addr} {ds : List DfX} {main : List PyData} {xs : List V} {rv : V} (h : Pg K H p q ds main xs rv) {i : Nat} {u : V} (e : xs[i]? = some u) :
    ∃ x o v2 v3 r, ds[i]? = some x ∧ u = .ref o ∧ SqT K H o [.str x.a, v2, v3, r] ∧ Tp K H r (.tuple x.ws) := by
  obtain ⟨d, hd, td⟩ := h.d.get e
  rw [List.getElem?_map] at hd
  cases hx : ds[i]? with
  | none => rw [hx] at hd; cases hd
  | some x =>
    rw [hx] at hd
    cases hd
    unfold DfX.d at td
    cases td with
    | tup hs ha =>
      cases ha with
      | cons a1 r1 =>
        cases a1
        cases r1 with
        | cons a2 r2 =>
          cases r2 with
          | cons a3 r3 =>
            cases r3 with
            | cons a4 r4 =>
              cases r4
              exact ⟨x, _, _, _, _, rfl, rfl, hs, a4⟩
section
variable {P : Program} {w : World} {K : PySem.W.Frag} {mg : Str → Option Value} {base : Heap}
def spDefOf (K : PySem.W.Frag) : Sp := fun vs H Q _ => ∃ (p q : Addr) (ds : List DfX) (main : List PyData) (xs : List V) (rv : V) (a : Str), vs = [.ref p, .str a] ∧ Pg K H p q ds main xs rv ∧
  ((∃ (i : Nat) (x : DfX) (u : V), ds[i]? = some x ∧ xs[i]? = some u ∧ x.a = a ∧ (∀ (j : Nat) (y : DfX), j < i → ds[j]? = some y → y.a ≠ a) ∧ Q u H) ∨ ((∀ x ∈ ds, x.a ≠ a) ∧ Q .non H))
theorem ok_def_of {f : Addr} {fd : FuncData} {k : Nat} (F : Fun K "def_of" "def_of" s_def_of f fd) : FnOk P w K mg base CX0 (k + 1) f fd ["program", "name"] (spDefOf K) := by
  refine F.ok sc_def_of (fun vs H Q E h => ?_) (fun cdv A outer s H vs Q E hr h => ?_)
  · obtain ⟨p, q, ds, main, xs, rv, a, rfl, _⟩ := h; rfl
  · obtain ⟨p, q, ds, main, xs, rv, a, rfl, hP, hq⟩ := h
    refine ⟨_, pss_cons (ps_for PassesOwn.never rfl (pi_tup (pe_ix ix_tup (pv 0) pe_int (fun _ _ => rfl))) (pg_name (i := 2) sc_def_of.nd rfl (.inl rfl))
      (pss_one (ps_if (pt_cmpR op_eq (pe_ix ix_tup (pv 2) pe_int (fun _ _ => rfl)) (pv 1) (nomark _)) (pss_one (ps_ret (pv 2))) pss_nil))) (pss_one (ps_ret pe_non)), ?_⟩
    refine ⟨.ref p, rfl, p, _, 0, _, rfl, rfl, hP.s, rfl, q, rfl, ⟨xs, hP.t⟩, for_tup (a := q) (xs := xs) (fun i σ H2 => ∃ y, σ = [some (.ref p), some (.str a), y] ∧ H2 = H ∧ ∀ (j : Nat) (y : DfX), j < i → ds[j]? = some y → y.a ≠ a) ?_ ?_ ?_ ?_⟩
    · exact ⟨_, rfl, rfl, fun j y hj => by omega⟩
    · rintro i σ H2 _ ⟨y, _, rfl, _⟩
      exact hP.t
    · rintro i u σ H2 hu ⟨y, rfl, rfl, hn⟩
      obtain ⟨x, o, v2, v3, r, hx, rfl, hs, hr'⟩ := hP.at hu
      refine ⟨.ref o, rfl, o, _, 0, _, rfl, rfl, hs, rfl, .str a, rfl, rfl, _, rfl, ?_⟩
      by_cases e : x.a = a
      · refine itD (congrArg V.str e) ?_
        rcases hq with ⟨i', x', u', h1, h2, h3, h4, h5⟩ | ⟨h1, _⟩
        · have ei : i' = i := by
            rcases Nat.lt_trichotomy i i' with z | z | z
            · exact absurd e (h4 i x z hx)
            · exact z.symm
            · exact absurd h3 (hn i' x' z h1)
          subst ei
          rw [hu] at h2; cases h2
          exact ⟨_, rfl, h5⟩
        · exact absurd e (h1 x (List.mem_of_getElem? hx))
      · refine itN (fun z => e (V.str.inj z)) ?_
        refine ⟨_, rfl, rfl, fun j y hj hy => ?_⟩
        rcases Nat.lt_succ_iff_lt_or_eq.mp hj with z | z
        · exact hn j y z hy
        · rw [z, hx] at hy; cases hy; exact e
    · rintro σ H2 ⟨y, rfl, rfl, hn⟩
      rcases hq with ⟨i', x', u', h1, h2, h3, h4, h5⟩ | ⟨_, h1⟩
      · exact absurd h3 (hn i' x' (List.getElem?_eq_some_iff.mp h2).1 h1)
      · exact h1
end
end K41

set_option maxHeartbeats 4000000
namespace K41
open PySem PySem.Spec PyProof.Rows L2 Kk RZ
/-! fresh names -/
def dgt (g i : Nat) : Str := sg (97 + g / 26 ^ i % 26)
def nmT (g : Nat) : Str := Txt.join (Str.ofString "") ((((List.range 4).map (dgt g))).reverse)
theorem inV_strs (a : Str) : ∀ bs : List Str, inV (.str a) (bs.map V.str) = decide (a ∈ bs)
  | [] => by simp [inV]
  | b :: bs => by
    have ih := inV_strs a bs
    unfold inV at ih ⊢
    rw [List.map_cons, List.any_cons, ih]
    have ev : eqV (V.str b) (V.str a) = decide (b = a) := by
      show (b == a) = _
      by_cases e : b = a
      · rw [e]; simp
      · rw [decide_eq_false e]; exact beq_eq_false_iff_ne.mpr e
    rw [ev]
    by_cases e : b = a
    · simp [e]
    · have : ¬ a = b := fun z => e z.symm
      simp [e, this]
theorem abc_n : ∀ v : Nat, v < 26 → abc.cps.toList[v]? = some (97 + v) := by decide +kernel
theorem nm_tl (g : Nat) : TL.tl (nmT g) = [97 + g / 17576 % 26, 97 + g / 676 % 26, 97 + g / 26 % 26, 97 + g % 26] := by
  have e : ((List.range 4).map (dgt g)).reverse = ([97 + g / 26 ^ 3 % 26, 97 + g / 26 ^ 2 % 26, 97 + g / 26 ^ 1 % 26, 97 + g / 26 ^ 0 % 26] : List Nat).map sg := rfl
  unfold nmT
  rw [e, join_sg]
  simp
theorem nm_ok (g : Nat) (h : g < 2000) : nameB (nmT g) = true ∧ (TL.tl (nmT g)).head? = some 97 ∧ (nmT g).length = 4 := by
  have t := nm_tl g
  have h0 : g / 17576 % 26 = 0 := by omega
  have hl : (nmT g).length = 4 := by rw [TL.len_tl, t]; rfl
  have hh : (TL.tl (nmT g)).head? = some 97 := by rw [t, h0]; rfl
  refine ⟨?_, hh, hl⟩
  have h1 : inV (.str (nmT g)) tongV = false := by
    unfold tongV
    rw [inV_strs]
    refine decide_eq_false fun m => ?_
    have : ∀ z ∈ tongS, (TL.tl z).head? ≠ some 97 ∨ z.length ≠ 4 := by decide +kernel
    rcases this _ m with q | q
    · exact q hh
    · exact q hl
  rw [name_split _ h1, hl]
  have : allAbc (nmT g) = true := by
    refine List.all_eq_true.mpr fun c hc => decide_eq_true ?_
    have hc : c ∈ TL.tl (nmT g) := hc
    rw [t] at hc
    have ab : ∀ v : Nat, v < 26 → 97 + v ∈ abc.cps.toList := fun v hv => List.mem_of_getElem? (abc_n v hv)
    have lt : ∀ v : Nat, v % 26 < 26 := fun v => Nat.mod_lt v (by decide)
    simp only [List.mem_cons, List.not_mem_nil, or_false] at hc
    rcases hc with z | z | z | z <;> rw [z] <;> exact ab _ (lt _)
  rw [this]; rfl
abbrev s_name_by : Stmt := topS 24
abbrev n_name_by : List Str := ["number", "letters", "step"]
theorem sc_name_by : FnScope n_name_by ["number"] (defScope s_name_by) := ⟨rfl, rfl, rfl, by decide +kernel, rfl, by decide +kernel, by decide +kernel⟩
abbrev s_finit : Stmt := inClass (topS 25) 0
abbrev s_next_name : Stmt := inClass (topS 25) 1
theorem sc_finit : FnScope ["self", "taken"] ["self", "taken"] (defScope s_finit) := ⟨rfl, rfl, rfl, by decide +kernel, rfl, by decide +kernel, by decide +kernel⟩
theorem sc_next_name : FnScope ["self", "name"] ["self"] (defScope s_next_name) := ⟨rfl, rfl, rfl, by decide +kernel, rfl, by decide +kernel, by decide +kernel⟩
/-- what the written part says of Fresh -/
structure TFr (K : PySem.W.Frag) (mg : Str → Option Value) (CF : Addr) : Prop where
  cl : Cls K CF
  n1 : NoAttr K CF "taken"
  n2 : NoAttr K CF "given"
/-- a giver of names, so many given -/
def FrH (CF : Addr) (H : Hp) (x tk : Addr) (g : Nat) : Prop := ∃ (dx : Addr) (fs : List (Str × V)) (kvs : List (Key × V)), H x = some (.ins CF dx fs) ∧ fs.lookup ("taken" : Str) = some (.ref tk) ∧ fs.lookup ("given" : Str) = some (.int (g : Nat)) ∧ fs.lookup ("next_name" : Str) = none ∧ fs.length ≤ 10 ∧
  H tk = some (.dK kvs) ∧ (∀ p ∈ kvs, ∃ z : Str, p.1 = .inr z ∧ (TL.tl z).head? = some 113)
theorem FrH.ex {CF : Addr} {H H' : Hp} {x tk : Addr} {g : Nat} {xs : List Addr} (h : FrH CF H x tk g) (e : Ex xs H H') (n1 : x ∉ xs) (n2 : tk ∉ xs) : FrH CF H' x tk g := by
  obtain ⟨dx, fs, kvs, h1, h2, h3, h4, h5, h6, h7⟩ := h
  exact ⟨dx, fs, kvs, e.a x _ n1 h1 (fun _ z => by cases z), h2, h3, h4, h5, e.a tk _ n2 h6 (fun _ z => by cases z), h7⟩
theorem FrH.nil {CF : Addr} {H H' : Hp} {x tk : Addr} {g : Nat} (h : FrH CF H x tk g) (e : Ex [] H H') : FrH CF H' x tk g := h.ex e (by simp) (by simp)
theorem FrH.ne {CF : Addr} {H : Hp} {x tk B : Addr} {g : Nat} (h : FrH CF H x tk g) (n : H B = none) : x ≠ B ∧ tk ≠ B := by
  obtain ⟨dx, fs, kvs, h1, h2, h3, h4, h5, h6, h7⟩ := h
  exact ⟨fun z => (by rw [z, n] at h1; cases h1), fun z => (by rw [z, n] at h6; cases h6)⟩
theorem FrH.some {CF : Addr} {H : Hp} {x tk : Addr} {g : Nat} (h : FrH CF H x tk g) : H x ≠ none := by
  obtain ⟨dx, fs, kvs, h1, _⟩ := h
  rw [h1]; simp
section
variable {P : Program} {w : World} {K : PySem.W.Frag} {mg : Str → Option Value} {base : Heap}
/-- what the module has at its names -/
structure Mf (mg : Str → Option Value) : Prop where
  range : mg "range" = none
  len : mg "len" = none
  letters : ∃ t, mg "LETTERS" = some (.str abc t)
  four : ∃ t, mg "FRESH_LETTERS" = some (.int 4 t)
def spNameBy : Sp := fun vs H Q _ => ∃ (g : Nat), vs = [.int (g : Nat)] ∧ g < 2000 ∧ ∀ H', Ex [] H H' → Q (.str (nmT g)) H'
theorem ok_name_by {f : Addr} {fd : FuncData} {k : Nat} (F : Fun K "name_by" "name_by" s_name_by f fd) (M : Mf mg) : FnOk P w K mg base CX0 (k + 1) f fd ["number"] spNameBy := by
  obtain ⟨tl, g_LETTERS⟩ := M.letters
  obtain ⟨t4, g_FRESH_LETTERS⟩ := M.four
  have m_len := M.len
  have m_range := M.range
  refine F.ok sc_name_by (fun vs H Q E h => ?_) (fun cdv A outer s H vs Q E hr h => ?_)
  · obtain ⟨g, rfl, _⟩ := h; rfl
  · obtain ⟨g, rfl, hg, q⟩ := h
    refine ⟨_, (pss_cons (ps_set (i := 1) sc_name_by.nd rfl (.inl rfl) (pe_lst pa_nil))
      (pss_cons (ps_for PassesOwn.never rfl (pi_range1 (by rfl) m_range (pa_cons (pe_glob (v := .int 4) rfl g_FRESH_LETTERS ⟨_, rfl⟩) pa_nil)) (pg_name (i := 2) sc_name_by.nd rfl (.inl rfl)) (pss_cons (ps_expr (pe_bm PySem.F.plainAttrs_list PySem.F.slot_list_append PySem.F.type_list_append mt_append (pv 1) (pa_cons (pe_ix ix_str (pe_glob (v := .str abc) rfl g_LETTERS ⟨_, rfl⟩) (pe_op op_mod (pv 0) (pe_callB call_len_str (by rfl) m_len PySem.boot_len (pa_cons (pe_glob (v := .str abc) rfl g_LETTERS ⟨_, rfl⟩) pa_nil))) (fun _ _ => rfl)) pa_nil)))
      (pss_one (ps_aug (i := 0) sc_name_by.nd rfl (.inl rfl) (pe_callB call_len_str (by rfl) m_len PySem.boot_len (pa_cons (pe_glob (v := .str abc) rfl g_LETTERS ⟨_, rfl⟩) pa_nil)) iop_fdiv))))
      (pss_one (ps_ret (pe_join pe_str (pe_revL (pv 1))))))), ?_⟩
    refine ⟨Nat.zero_le _, fun B nB => ?_⟩
    refine ⟨4, rfl, by decide, by decide, for_range (lo := 0) (n := (4 : Int).toNat) (fun i σ H2 => ∃ y : Option V, σ = [some (.int ((g / 26 ^ i : Nat) : Int)), some (.ref B), y] ∧ H2 B = some (.lst (((List.range i).map (dgt g)).map V.str)) ∧ Ex [] H H2) ?_ ?_ ?_⟩
    · exact ⟨_, by rw [Nat.pow_zero, Nat.div_one]; rfl, upd_same, .new nB⟩
    · rintro i σ H2 hi ⟨y, rfl, hB, x2⟩
      have l26 : abc.length = 26 := by decide +kernel
      have lt := Nat.mod_lt (g / 26 ^ i) (show 26 > 0 by decide)
      have e1 : ((g / 26 ^ i : Nat) : Int) % ((abc.length : Nat) : Int) = ((g / 26 ^ i % 26 : Nat) : Int) := by rw [l26]; omega
      have e2 : ((g / 26 ^ i : Nat) : Int) / ((abc.length : Nat) : Int) = ((g / 26 ^ (i + 1) : Nat) : Int) := by
        rw [l26, Nat.pow_succ, ← Nat.div_div_eq_div_mul]; omega
      refine ⟨.ref B, rfl, .inl ⟨rfl, _, .of hB⟩, .int ((g / 26 ^ i : Nat) : Int), rfl, abc, rfl, by decide +kernel, _, _, rfl, rfl, (by show (0 : Int) < ((abc.length : Nat) : Int); rw [l26]; decide), abc, _, 97 + g / 26 ^ i % 26, rfl, rfl, by decide +kernel, ?_, B, _, _, rfl, rfl, hB, ?_, ?_⟩
      · rw [e1]; exact atI_nat (abc_n _ lt)
      · rw [List.length_map, List.length_map, List.length_range]; exact Nat.lt_of_le_of_lt (show i ≤ 4 by omega) (by decide)
      · obtain ⟨z, hz⟩ := pw (o := .lst (((List.range i).map (dgt g)).map V.str ++ [V.str ⟨#[97 + g / 26 ^ i % 26]⟩])) hB
        refine ⟨_, rfl, abc, rfl, by decide +kernel, _, _, rfl, rfl, ⟨(by show (0 : Int) < ((abc.length : Nat) : Int); rw [l26]; decide), (by show ((abc.length : Nat) : Int) < 1073741824; rw [l26]; decide)⟩, ?_⟩
        refine ⟨_, (by rw [← e2]; rfl), ?_, Ex.own nB x2 z⟩
        rw [hz, List.range_succ, List.map_append, List.map_append]; rfl
    · rintro σ H2 ⟨y, rfl, hB, x2⟩
      refine ⟨⟨_, rfl⟩, .ref B, rfl, B, _, rfl, .of hB, fun G nG => ?_⟩
      obtain ⟨z, hG⟩ := nw (o := .lst (((List.range 4).map (dgt g)).map V.str).reverse) nG
      have hG : (upd H2 G (.lst (((List.range 4).map (dgt g)).map V.str).reverse)) G = some (.lst ((((List.range 4).map (dgt g)).reverse).map V.str)) := by rw [hG, List.map_reverse]
      refine ⟨_, G, ((List.range 4).map (dgt g)).reverse, rfl, rfl, .inl (.of hG), ?_, q _ (x2.trans z)⟩
      exact (show (Nat.zero + ((dgt g 3).length + ((dgt g 2).length + ((dgt g 1).length + ((dgt g 0).length + 0))))) ≤ sizeLine from Nat.le_trans (show _ ≤ 4 from by show 0 + (1 + (1 + (1 + (1 + 0)))) ≤ 4; decide) (by decide))
end
end K41

set_option maxHeartbeats 4000000
namespace K41
open PySem PySem.Spec PyProof.Rows L2 Kk RZ
theorem putF_len {f : Str} {v : V} : ∀ {fs : List (Str × V)}, fs.lookup f ≠ none → (putF f v fs).length = fs.length
  | [], h => absurd rfl h
  | (g, x) :: r, h => by
    unfold putF
    by_cases e : g = f
    · rw [if_pos e]; rfl
    · rw [if_neg e, List.length_cons, List.length_cons, putF_len (fs := r) ?_]
      intro z
      refine h ?_
      rw [List.lookup_cons]
      have : (f == g) = false := by
        cases q : f == g with
        | false => rfl
        | true => exact absurd (eq_of_beq q).symm e
      rw [this]; exact z
theorem un1 {k : Nat} {A : Around} (hr : Room k A) : A.units + 1 < cLine := by have := hr.un; omega
section
variable {P : Program} {w : World} {K : PySem.W.Frag} {mg : Str → Option Value} {base : Heap}
def spNext (CF T : Addr) : Sp := fun vs H Q _ => ∃ (x tk : Addr) (g : Nat), vs = [.ref x] ∧ GxR.TabG H T ∧ FrH CF H x tk g ∧ g < 2000 ∧ ∀ H', Ex [x] H H' → FrH CF H' x tk (g + 1) → Q (.str (nmT g)) H'
theorem ok_next {f f1 f2 CF T : Addr} {fd d1 d2 : FuncData} {k : Nat} (F : Fun K "next_name" "Fresh.next_name" s_next_name f fd) (TF : TFr K mg CF) (C_name_by : Cl P w K mg base k "name_by" ["number"] spNameBy f1 d1) (C_is_name : Cl P w K mg base k "is_name" ["thing"] (spName K T) f2 d2) :
    FnOk P w K mg base CX0 (k + 1) f fd ["self"] (spNext CF T) := by
  refine F.ok sc_next_name (fun vs H Q E h => ?_) (fun cdv A outer s H vs Q E hr h => ?_)
  · obtain ⟨x, tk, g, rfl, _⟩ := h; rfl
  · obtain ⟨x, tk, g, rfl, hT, hF, hg, q⟩ := h
    refine ⟨_, (pss_one (ps_while PassesOwn.never (pt_val pe_bl) (pss_cons (ps_set (i := 1) sc_next_name.nd rfl (.inl rfl) (pe_call C_name_by.g hr (by rfl) C_name_by.m C_name_by.k C_name_by.b .nil pass0 (pa_cons (pe_fld (pv 0) rfl) pa_nil)))
      (pss_cons (ps_fldaug (pv 0) pe_int ip_add)
      (pss_one (ps_if (PW.pt (pw_and (pt_val (pe_call C_is_name.g hr (by rfl) C_is_name.m C_is_name.k C_is_name.b .nil pass0 (pa_cons (pv 1) pa_nil))) (pw_and1 (pt_cmp (pc_dnotin (un1 hr) (pv 1) (pe_fld (pv 0) rfl)))))) (pss_one (ps_ret (pv 1))) pss_nil)))))), ?_⟩
    obtain ⟨dx, fs, kvs, h1, h2, h3, h4, h5, h6, h7⟩ := hF
    obtain ⟨n1, n2, n3⟩ := nm_ok g hg
    refine ⟨fun M σ H2 => σ = start ["self", "name"] [.ref x] ∧ H2 = H, ⟨0, rfl, rfl⟩, ?_⟩
    rintro M σ H2 ⟨rfl, rfl⟩
    refine ⟨true, rfl, iteT ?_⟩
    refine ⟨fun _ _ => False, fun _ _ z => z.elim, ?_⟩
    refine ⟨.ref x, rfl, x, CF, dx, fs, .int g, rfl, h1, TF.cl, TF.n2, h3, g, rfl, hg, fun H1 x1 => ?_⟩
    have h1' := x1.a x _ (by simp) h1 (fun _ z => by cases z)
    have h6' := x1.a tk _ (by simp) h6 (fun _ z => by cases z)
    have nxt : tk ≠ x := fun z => by rw [z, h1] at h6; cases h6
    refine ⟨.ref x, rfl, x, CF, dx, fs, .int g, rfl, h1', TF.cl, TF.n2, h3, g, 1, rfl, rfl, dx, fs, h1', by omega, ?_⟩
    have x2 : Ex [x] H1 (upd H1 x (.ins CF dx (putF "given" (.int ((g : Int) + 1)) fs))) := .put h1' (fun _ z => by cases z) (by simp)
    have h6b : (upd H1 x (.ins CF dx (putF "given" (.int ((g : Int) + 1)) fs))) tk = some (.dK kvs) := by rw [upd_ne nxt]; exact h6'
    have lk : ∀ y : Str, y ≠ ("given" : Str) → (putF "given" (.int ((g : Int) + 1)) fs).lookup y = fs.lookup y := fun y hy => by rw [lookup_putF, if_neg hy]
    have e2 := lk "taken" (by decide +kernel)
    have e4 := lk "next_name" (by decide +kernel)
    rw [h2] at e2; rw [h4] at e4
    have hF2 : FrH CF (upd H1 x (.ins CF dx (putF "given" (.int ((g : Int) + 1)) fs))) x tk (g + 1) :=
      ⟨dx, _, kvs, upd_same, e2, by rw [lookup_putF, if_pos rfl]; rfl, e4, by rw [putF_len (by rw [h3]; simp)]; exact h5, h6b, h7⟩
    have hx2 : (upd H1 x (.ins CF dx (putF "given" (.int ((g : Int) + 1)) fs))) x = some (.ins CF dx (putF "given" (.int ((g : Int) + 1)) fs)) := upd_same
    generalize upd H1 x (.ins CF dx (putF "given" (.int ((g : Int) + 1)) fs)) = H3 at x2 h6b hF2 hx2 ⊢
    generalize putF "given" (.int ((g : Int) + 1)) fs = fs3 at e2 hx2 ⊢
    have x3 : Ex [x] H2 H3 := x1.nil.trans x2
    refine ⟨.str (nmT g), rfl, .str (nmT g), rfl, x3.t _ hT, .inl ⟨nmT g, rfl, by rw [n3]; decide, fun H4 x4 => ?_⟩⟩
    rw [n1]
    have hx4 := x4.a x _ (by simp) hx2 (fun _ z => by cases z)
    have h64 := x4.a tk _ (by simp) h6b (fun _ z => by cases z)
    refine ⟨true, rfl, iteT ?_⟩
    refine ⟨.str (nmT g), rfl, .ref x, rfl, x, CF, dx, fs3, .ref tk, rfl, hx4, TF.cl, TF.n1, e2, tk, valV kvs (.inr (nmT g)), rfl, (show DGet H4 tk (kV (.inr (nmT g))) _ from DGet.k h64), ?_⟩
    have nv : valV kvs (.inr (nmT g)) = none := by
      cases e : valV kvs (.inr (nmT g)) with
      | none => rfl
      | some v =>
        have hm : ∃ p ∈ kvs, p.1 = (Sum.inr (nmT g) : Key) := by
          unfold valV at e
          cases ef : kvs.find? (fun kv => decide (kv.1 = (Sum.inr (nmT g) : Key))) with
          | none => rw [ef] at e; cases e
          | some p => exact ⟨p, List.mem_of_find?_eq_some ef, of_decide_eq_true (by simpa using List.find?_some ef)⟩
        obtain ⟨p, hp, ep⟩ := hm
        obtain ⟨z, ez, hz⟩ := h7 p hp
        rw [ez] at ep
        rw [Sum.inr.inj ep, n2] at hz
        cases hz
    rw [nv]
    refine ⟨_, rfl, iteT ?_⟩
    exact ⟨_, rfl, q H4 (x3.trans x4.nil) (hF2.nil x4)⟩
/-- Fresh(..) -/
def spFInit (CF : Addr) : Sp := fun vs H Q _ => ∃ (x dx tk : Addr) (kvs : List (Key × V)), vs = [.ref x, .ref tk] ∧ H x = some (.ins CF dx []) ∧ H tk = some (.dK kvs) ∧ (∀ p ∈ kvs, ∃ z : Str, p.1 = .inr z ∧ (TL.tl z).head? = some 113) ∧
  ∀ H', Ex [x] H H' → FrH CF H' x tk 0 → Q .non H'
theorem ok_finit {f CF : Addr} {fd : FuncData} {k : Nat} (F : Fun K "__init__" "Fresh.__init__" s_finit f fd) (TF : TFr K mg CF) : FnOk P w K mg base CX0 (k + 1) f fd ["self", "taken"] (spFInit CF) := by
  refine F.ok sc_finit (fun vs H Q E h => ?_) (fun cdv A outer s H vs Q E hr h => ?_)
  · obtain ⟨x, dx, tk, kvs, rfl, _⟩ := h; rfl
  · obtain ⟨x, dx, tk, kvs, rfl, hx, hk, hq, q⟩ := h
    refine ⟨_, (pss_cons (ps_fld (pv 0) (pv 1) rfl) (pss_one (ps_fld (pv 0) pe_int rfl))), ?_⟩
    have nxt : tk ≠ x := fun z => by rw [z, hx] at hk; cases hk
    refine ⟨.ref tk, rfl, .ref x, rfl, x, CF, dx, _, rfl, hx, TF.cl, TF.n1, (by decide), ?_⟩
    have xa : Ex [x] H (upd H x (.ins CF dx (putF "taken" (.ref tk) []))) := .put hx (fun _ z => by cases z) (by simp)
    have hx1 : (upd H x (.ins CF dx (putF "taken" (.ref tk) []))) x = some (.ins CF dx (putF "taken" (.ref tk) [])) := upd_same
    have hk1 : (upd H x (.ins CF dx (putF "taken" (.ref tk) []))) tk = some (.dK kvs) := by rw [upd_ne nxt]; exact hk
    generalize upd H x (.ins CF dx (putF "taken" (.ref tk) [])) = H1 at xa hx1 hk1 ⊢
    refine ⟨.ref x, rfl, x, CF, dx, _, rfl, hx1, TF.cl, TF.n2, Nat.lt_of_le_of_lt (length_putF _ _ _) (by decide), ?_⟩
    have xb : Ex [x] H1 (upd H1 x (.ins CF dx (putF "given" (.int 0) (putF "taken" (.ref tk) [])))) := .put hx1 (fun _ z => by cases z) (by simp)
    refine q _ (xa.trans xb) ⟨dx, _, kvs, upd_same, ?_, ?_, ?_, ?_, by rw [upd_ne nxt]; exact hk1, hq⟩
    · rw [lookup_putF, if_neg (by decide +kernel), lookup_putF, if_pos rfl]
    · rw [lookup_putF, if_pos rfl]; rfl
    · rw [lookup_putF, if_neg (by decide +kernel), lookup_putF, if_neg (by decide +kernel)]; rfl
    · exact Nat.le_trans (length_putF _ _ _) (Nat.succ_le_of_lt (Nat.lt_of_le_of_lt (length_putF _ _ _) (by decide)))
end
end K41

set_option maxHeartbeats 8000000
namespace K41
open PySem PySem.Spec PyProof.Rows L2 Kk RZ
/-! words as they occur here -/
inductive Pw
  | tell (b : Str)
  | wipe (b : Str)
  | copy (a b : Str)
  | drop (bs : List Str)
  | out (n : Nat)
  | back
  | call (a : Str) (xs ys : List Str)
inductive Wo
  | p (w : Pw)
  | r (ch : Bool) (rs : List (List Pw))
def Pw.d : Pw → PyData
  | .tell b => .tuple [ts "tell", ts b]
  | .wipe b => .tuple [ts "wipe", ts b]
  | .copy a b => .tuple [ts "copy", ts a, ts b]
  | .drop bs => .tuple [ts "drop", tsL bs]
  | .out n => .tuple [ts "out", .int (n : Nat)]
  | .back => .tuple [ts "back"]
  | .call a xs ys => .tuple [ts "call", ts a, tsL xs, tsL ys]
abbrev rD (r : List Pw) : PyData := .tuple (r.map Pw.d)
def Wo.d : Wo → PyData
  | .p w => w.d
  | .r true rs => .tuple [ts "choose", .tuple (rs.map rD)]
  | .r false rs => .tuple [ts "loop", rD (rs.headD [])]
abbrev rowD (ws : List Wo) : PyData := .tuple (ws.map Wo.d)
def OkP (D : Dm) : Pw → Prop
  | .tell b => b ∈ D.boxes
  | .wipe b => b ∈ D.boxes
  | .copy a b => a ∈ D.boxes ∧ b ∈ D.boxes
  | .drop bs => Sub D bs ∧ bs ≠ []
  | .out n => 1 ≤ n ∧ n ≤ 9
  | .back => True
  | .call a xs ys => (a, xs.length, ys.length) ∈ D.known ∧ Sub D xs ∧ Sub D ys
def OkW (D : Dm) : Wo → Prop
  | .p w => OkP D w
  | .r ch rs => rs ≠ [] ∧ rs.length ≤ 4 ∧ (ch = false → rs.length = 1) ∧ ∀ r ∈ rs, r.length ≤ 3 ∧ ∀ w ∈ r, OkP D w
theorem wd_p {D : Dm} {w : Pw} (h : OkP D w) (n l : Nat) (hl : 9 ≤ l) : Wd D n l w.d := by
  cases w with
  | tell b => exact .tell h
  | wipe b => exact .wipe h
  | copy a b => exact .copy h.1 h.2
  | drop bs => exact .drop h.1 h.2
  | out n => exact .out (by have := h.1; omega) (by have := h.2; omega)
  | back => exact .back
  | call a xs ys => exact .call h.1 h.2.1 h.2.2
theorem wd_w {D : Dm} {w : Wo} (h : OkW D w) : Wd D 1 9 w.d := by
  cases w with
  | p w => exact wd_p h 1 9 (Nat.le_refl _)
  | r ch rs =>
    obtain ⟨h1, h2, h3, h4⟩ := h
    cases ch with
    | true =>
      have e : rs.map rD = (rs.map fun r => r.map Pw.d).map PyData.tuple := by rw [List.map_map]; rfl
      show Wd D 1 9 (.tuple [ts "choose", .tuple (rs.map rD)])
      rw [e]
      refine .choose (by simpa using h1) (by rw [List.length_map]; exact h2) (fun ws hw => ?_) fun ws hw w hw2 => ?_
      · obtain ⟨r, hr, rfl⟩ := List.mem_map.mp hw
        rw [List.length_map]; exact (h4 r hr).1
      · obtain ⟨r, hr, rfl⟩ := List.mem_map.mp hw
        obtain ⟨w', hw', rfl⟩ := List.mem_map.mp hw2
        exact wd_p ((h4 r hr).2 w' hw') 0 9 (Nat.le_refl _)
    | false =>
      cases rs with
      | nil => exact absurd rfl h1
      | cons r rs =>
        obtain ⟨q1, q2⟩ := h4 r List.mem_cons_self
        refine .loop (by rw [List.length_map]; exact q1) fun w hw => ?_
        obtain ⟨w', hw', rfl⟩ := List.mem_map.mp hw
        exact wd_p (q2 w' hw') 0 10 (by omega)
theorem rw_of {D : Dm} {ws : List Wo} (hl : ws.length ≤ 320) (h : ∀ w ∈ ws, OkW D w) : Rw D 320 1 9 (rowD ws) := by
  refine ⟨_, rfl, by rw [List.length_map]; exact hl, fun d hd => ?_⟩
  obtain ⟨w, hw, rfl⟩ := List.mem_map.mp hd
  exact wd_w (h w hw)
theorem inn_p (w : Pw) : innD w.d = [] := by
  cases w with
  | drop bs => exact inn_drop bs
  | _ => rfl
theorem inn_w {D : Dm} {w : Wo} (h : OkW D w) : innD w.d = match w with | .p _ => [] | .r _ rs => rs.map rD := by
  cases w with
  | p w => exact inn_p w
  | r ch rs =>
    obtain ⟨h1, h2, h3, h4⟩ := h
    cases ch with
    | true => show innD (.tuple [ts "choose", .tuple (rs.map rD)]) = rs.map rD; simp [innD, ts]
    | false =>
      cases rs with
      | nil => exact absurd rfl h1
      | cons r rs =>
        have : rs = [] := List.eq_nil_of_length_eq_zero (by have := h3 rfl; simpa using this)
        subst this
        exact inn_loop _
/-! texts -/
def Qs (z : Str) : Prop := (TL.tl z).head? = some 113 ∧ 46 ∉ TL.tl z ∧ z.length ≤ 20
structure DQ (D : Dm) : Prop where
  b : ∀ z ∈ D.boxes, Qs z
  r : ∀ z ∈ D.recs, Qs z
  w : ∀ z ∈ D.worths, Qs z
  k : ∀ p ∈ D.known, Qs p.1
def NmP (q : Str × PyData) : Prop := q.1 = ("name" : Str) → ∃ z, q.2 = .str z ∧ Qs z
theorem nm_parts {D : Dm} {m l : Nat} {k : Str} {ps : List PyData} (hD : DQ D) (h : Wd D m l (.tuple (.str k :: ps))) : ∀ q ∈ (frm k).zip ps, NmP q := by
  generalize ed : PyData.tuple (.str k :: ps) = d at h
  have no : ∀ (a : Str) (d : PyData), a ≠ ("name" : Str) → NmP (a, d) := fun a d n e => absurd e n
  have fr : ∀ (k : Str) (l : List Str), frm k = l → frm k = l := fun _ _ e => e
  cases h with
  | take a b =>
    cases ed
    rw [fr (Str.ofString "take") [Str.ofString "box", Str.ofString "name"] (by decide +kernel)]
    intro q hq
    simp only [List.zip_cons_cons, List.zip_nil_right, List.mem_cons, List.not_mem_nil, or_false] at hq
    rcases hq with rfl | rfl
    · exact no _ _ (by decide +kernel)
    · exact fun _ => ⟨_, rfl, hD.w _ b⟩
  | ask a =>
    cases ed
    rw [fr (Str.ofString "ask") [Str.ofString "box"] (by decide +kernel)]
    intro q hq
    simp only [List.zip_cons_cons, List.zip_nil_right, List.mem_cons, List.not_mem_nil, or_false] at hq
    rcases hq with rfl
    exact no _ _ (by decide +kernel)
  | number a =>
    cases ed
    rw [fr (Str.ofString "number") [Str.ofString "box", Str.ofString "whole"] (by decide +kernel)]
    intro q hq
    simp only [List.zip_cons_cons, List.zip_nil_right, List.mem_cons, List.not_mem_nil, or_false] at hq
    rcases hq with rfl | rfl <;> exact no _ _ (by decide +kernel)
  | copy a b =>
    cases ed
    rw [fr (Str.ofString "copy") [Str.ofString "box", Str.ofString "box"] (by decide +kernel)]
    intro q hq
    simp only [List.zip_cons_cons, List.zip_nil_right, List.mem_cons, List.not_mem_nil, or_false] at hq
    rcases hq with rfl | rfl <;> exact no _ _ (by decide +kernel)
  | mix a b c =>
    cases ed
    rw [fr (Str.ofString "mix") [Str.ofString "box", Str.ofString "box", Str.ofString "box"] (by decide +kernel)]
    intro q hq
    simp only [List.zip_cons_cons, List.zip_nil_right, List.mem_cons, List.not_mem_nil, or_false] at hq
    rcases hq with rfl | rfl | rfl <;> exact no _ _ (by decide +kernel)
  | opens a b =>
    cases ed
    rw [fr (Str.ofString "open") [Str.ofString "box", Str.ofString "box"] (by decide +kernel)]
    intro q hq
    simp only [List.zip_cons_cons, List.zip_nil_right, List.mem_cons, List.not_mem_nil, or_false] at hq
    rcases hq with rfl | rfl <;> exact no _ _ (by decide +kernel)
  | tell a =>
    cases ed
    rw [fr (Str.ofString "tell") [Str.ofString "box"] (by decide +kernel)]
    intro q hq
    simp only [List.zip_cons_cons, List.zip_nil_right, List.mem_cons, List.not_mem_nil, or_false] at hq
    rcases hq with rfl
    exact no _ _ (by decide +kernel)
  | wipe a =>
    cases ed
    rw [fr (Str.ofString "wipe") [Str.ofString "box"] (by decide +kernel)]
    intro q hq
    simp only [List.zip_cons_cons, List.zip_nil_right, List.mem_cons, List.not_mem_nil, or_false] at hq
    rcases hq with rfl
    exact no _ _ (by decide +kernel)
  | clear a =>
    cases ed
    rw [fr (Str.ofString "clear") [Str.ofString "name"] (by decide +kernel)]
    intro q hq
    simp only [List.zip_cons_cons, List.zip_nil_right, List.mem_cons, List.not_mem_nil, or_false] at hq
    rcases hq with rfl
    exact fun _ => ⟨_, rfl, hD.r _ a⟩
  | drop a =>
    cases ed
    rw [fr (Str.ofString "drop") [Str.ofString "boxes"] (by decide +kernel)]
    intro q hq
    simp only [List.zip_cons_cons, List.zip_nil_right, List.mem_cons, List.not_mem_nil, or_false] at hq
    rcases hq with rfl
    exact no _ _ (by decide +kernel)
  | risk a =>
    cases ed
    rw [fr (Str.ofString "risk") [Str.ofString "name"] (by decide +kernel)]
    intro q hq
    simp only [List.zip_cons_cons, List.zip_nil_right, List.mem_cons, List.not_mem_nil, or_false] at hq
    rcases hq with rfl
    exact fun _ => ⟨_, rfl, hD.w _ a⟩
  | fault a =>
    cases ed
    rw [fr (Str.ofString "fault") [Str.ofString "name"] (by decide +kernel)]
    intro q hq
    simp only [List.zip_cons_cons, List.zip_nil_right, List.mem_cons, List.not_mem_nil, or_false] at hq
    rcases hq with rfl
    exact fun _ => ⟨_, rfl, hD.w _ a⟩
  | back =>
    cases ed
    rw [fr (Str.ofString "back") [] (by decide +kernel)]
    intro q hq
    simp at hq
  | out a b =>
    cases ed
    rw [fr (Str.ofString "out") [Str.ofString "whole"] (by decide +kernel)]
    intro q hq
    simp only [List.zip_cons_cons, List.zip_nil_right, List.mem_cons, List.not_mem_nil, or_false] at hq
    rcases hq with rfl
    exact no _ _ (by decide +kernel)
  | call a b c =>
    cases ed
    rw [fr (Str.ofString "call") [Str.ofString "name", Str.ofString "boxes", Str.ofString "boxes"] (by decide +kernel)]
    intro q hq
    simp only [List.zip_cons_cons, List.zip_nil_right, List.mem_cons, List.not_mem_nil, or_false] at hq
    rcases hq with rfl | rfl | rfl
    · exact fun _ => ⟨_, rfl, hD.k _ a⟩
    · exact no _ _ (by decide +kernel)
    · exact no _ _ (by decide +kernel)
  | choose =>
    cases ed
    rw [fr (Str.ofString "choose") [Str.ofString "rows"] (by decide +kernel)]
    intro q hq
    simp only [List.zip_cons_cons, List.zip_nil_right, List.mem_cons, List.not_mem_nil, or_false] at hq
    rcases hq with rfl
    exact no _ _ (by decide +kernel)
  | loop =>
    cases ed
    rw [fr (Str.ofString "loop") [Str.ofString "row"] (by decide +kernel)]
    intro q hq
    simp only [List.zip_cons_cons, List.zip_nil_right, List.mem_cons, List.not_mem_nil, or_false] at hq
    rcases hq with rfl
    exact no _ _ (by decide +kernel)
theorem walk_zipT {K : PySem.W.Frag} {a b : Addr} {xs ys : List V} {n : Nat} (hn : n = min xs.length ys.length) : Walk (ItzT K a b) n (fun H => SqT K H a xs ∧ SqT K H b ys) (YPair (fun i => xs[i]?) (fun i => ys[i]?)) := by
  subst hn
  refine ⟨fun i _ hi q => ?_, fun _ q => ⟨xs, ys, q.1, q.2, by omega⟩, fun i H v H' _ q y => ?_⟩
  · have h1 : i < xs.length := by omega
    have h2 : i < ys.length := by omega
    exact ⟨xs, ys, xs[i], ys[i], q.1, q.2, by simp [h1], by simp [h2]⟩
  · obtain ⟨T, x, z, h1, h2, h3, h4, h5⟩ := y
    exact ⟨T, x, z, h1, h2, h3, h4 xs q.1, h5 ys q.2⟩
section
variable {P : Program} {w : World} {K : PySem.W.Frag} {mg : Str → Option Value} {base : Heap}
abbrev s_texts_of : Stmt := topS 26
abbrev n_texts_of : List Str := ["word", "names", "kind", "part"]
theorem sc_texts_of : FnScope n_texts_of ["word"] (defScope s_texts_of) := ⟨rfl, rfl, rfl, by decide +kernel, rfl, by decide +kernel, by decide +kernel⟩
def spTextsOf (K : PySem.W.Frag) : Sp := fun vs H Q _ => ∃ (v : V) (wd : PyData) (D : Dm) (m l : Nat), vs = [v] ∧ Tp K H v wd ∧ Wd D m l wd ∧ D.boxes.length = 6 ∧ DQ D ∧
  ∀ H' p (zs : List Str), H p = none → Ex [] H H' → H' p = some (.lst (zs.map V.str)) → (∀ z ∈ zs, Qs z) → zs.length ≤ 20 → Q (.ref p) H'
theorem ok_texts_of {f fA f1 : Addr} {fd d1 : FuncData} {k : Nat} (F : Fun K "texts_of" "texts_of" s_texts_of f fd) (M : Fm K w mg fA) (m_zip : mg "zip" = none) (C_boxes_of : Cl P w K mg base k "boxes_of" ["word"] (spBoxesOf K) f1 d1) : FnOk P w K mg base CX0 (k + 1) f fd ["word"] (spTextsOf K) := by
  refine F.ok sc_texts_of (fun vs H Q E h => ?_) (fun cdv A outer s H vs Q E hr h => ?_)
  · obtain ⟨v, wd, D, m, l, rfl, _⟩ := h; rfl
  · obtain ⟨v, wd, D, m, l, rfl, hT, hW, h6, hD, q⟩ := h
    refine ⟨_, (pss_cons (ps_setLc (i := 1) (own := [("kind", 2), ("part", 3)]) (g := gTup K 2 (gCons (gName 2) (gCons (gName 3) gNil))) rfl sc_texts_of.nd rfl rfl (sw_true rfl rfl rfl (by decide +kernel)) (pi_zipA (by rfl) m_zip (pa_cons (pe_ix ix_kdict (pe_glob (v := .ref fA) rfl M.m rfl) (pe_ix ix_tup (pv 0) pe_int (fun _ _ => rfl)) (fun _ _ => rfl)) (pa_cons (pe_slice sl_tupA (pv 0) (po_some pe_int) po_none) pa_nil))) (blkOk_by (N := n_texts_of) (sc := defScope s_texts_of) (by decide +kernel)) (fun _ _ _ _ _ => pg_tupK (K := K) rfl rfl (pgs_cons (pg_name (i := 2) sc_texts_of.nd rfl (Or.inl rfl)) (pgs_cons (pg_name (i := 3) sc_texts_of.nd rfl (Or.inl rfl)) pgs_nil))) (fun _ _ _ _ _ => pts_one (pt_cmpR op_eq (pv 2) pe_str (nomark _))) (fun _ _ _ _ _ => (pv 3)))
      (pss_one (ps_ret (pe_op op_cat (pv 1) (pe_call C_boxes_of.g hr (by rfl) C_boxes_of.m C_boxes_of.k C_boxes_of.b .nil pass0 (pa_cons (pv 0) pa_nil)))))), ?_⟩
    have bl := box_mem h6 hW
    have bl2 := box_len h6 hW
    obtain ⟨k0, ps, rfl, hk, hp⟩ := wd_form hW
    have nmp := nm_parts hD hW
    obtain ⟨tA, hd, hS⟩ := M.k _ _ hk
    have pl := hp.len
    have fl := frm_len k0
    cases hT with
    | tup hs ha =>
      rename_i a xs
      have hT0 := Tp.tup hs ha
      cases ha with
      | cons a1 a2 =>
        cases a1
        rename_i rest
        have rl := a2.len
        refine ⟨.ref a, rfl, a, _, 0, _, rfl, rfl, hs, atN (j := 0) rfl, fA, k0, .ref tA, rfl, rfl, hd, ?_⟩
        refine ⟨.ref a, rfl, 1, rfl, a, _, rfl, hs, fun z => absurd z one_cut, fun _ B nB => ?_⟩
        rw [cut_one]
        obtain ⟨y2, hB2⟩ := nw (o := .tup rest) nB
        refine ⟨tA, B, (frm k0).map V.str, rest, rfl, .inr ⟨hS _, .of hB2, fun L nL => ?_⟩⟩
        have hB3 : Ex [] _ (upd (upd H B (.tup rest)) L (.lst [])) := .new nL
        refine lc_it (walk_zipT (xs := (frm k0).map V.str) (ys := rest) (n := (frm k0).length) (by rw [List.length_map]; omega)) (fun i H3 => ∃ zs : List Str, H3 L = some (.lst (zs.map V.str)) ∧ (∀ z ∈ zs, Qs z) ∧ zs.length ≤ i ∧ Ex [L] (upd (upd H B (.tup rest)) L (.lst [])) H3) ⟨[], upd_same, by simp, by simp, .refl⟩
          (fun i H3 _ ⟨zs, _, _, _, x3⟩ => ⟨hS _, x3.seqT (hB3.seqT (.of hB2))⟩) (fun i x H3 H4 hi ⟨zs, h1, h2, h3, x3⟩ hy => ?_) (fun H3 ⟨zs, h1, h2, h3, x3⟩ => ?_)
        · obtain ⟨T, xa, za, e1, nT, e2, e3, e4⟩ := hy
          subst e1
          subst e2
          obtain ⟨kd, hkd, ekd⟩ : ∃ kd, (frm k0)[i]? = some kd ∧ xa = .str kd := by
            have e3 : ((frm k0).map V.str)[i]? = some xa := e3
            rw [List.getElem?_map] at e3
            cases hq : (frm k0)[i]? with
            | none => rw [hq] at e3; cases e3
            | some kd => rw [hq] at e3; cases e3; exact ⟨kd, rfl, rfl⟩
          subst ekd
          obtain ⟨d, hd1, td⟩ := a2.get e4
          have hz : ((frm k0).zip ps)[i]? = some (kd, d) := List.getElem?_zip_eq_some.mpr ⟨hkd, hd1⟩
          have np := nmp _ (List.mem_of_getElem? hz)
          obtain ⟨yT, hTt⟩ := nw (o := .tup [V.str kd, za]) nT
          refine ⟨T, [.str kd, za], rfl, .of hTt, rfl, _, _, rfl, _, _, rfl, rfl, rfl, ?_⟩
          refine ⟨.str kd, rfl, rfl, _, rfl, ?_⟩
          have h1T := yT.lst h1
          by_cases e : kd = ("name" : Str)
          · obtain ⟨z, ez, qz⟩ := np e
            have ez : d = .str z := ez
            subst ez
            cases td
            refine itD (congrArg V.str e) ?_
            refine ⟨.str z, rfl, _, h1T, ?_, ?_⟩
            · rw [List.length_map]; exact Nat.lt_of_le_of_lt (show zs.length ≤ 20 by omega) (by decide)
            · obtain ⟨z5, h5⟩ := pw (o := .lst (zs.map V.str ++ [.str z])) h1T
              refine ⟨zs ++ [z], by rw [h5, List.map_append]; rfl, fun y hy => ?_, by rw [List.length_append]; simp; omega, (x3.trans yT.nil).trans z5⟩
              rcases List.mem_append.mp hy with m | m
              · exact h2 y m
              · rw [List.mem_singleton.mp m]; exact qz
          · refine itN (fun z => e (V.str.inj z)) ?_
            exact ⟨zs, h1T, h2, by omega, x3.trans yT.nil⟩
        · have x03 : Ex [] H H3 := Ex.own (y2.f L |> fun f => (show H L = none from f nL)) (y2.trans hB3) x3
          refine ⟨.ref L, rfl, .ref a, rfl, .ref a, _, D, m, l, rfl, hT0.ex x03, hW, h6, fun H4 p np x4 hp4 => ?_⟩
          have h14 := x4.lst h1
          refine ⟨L, p, _, _, rfl, rfl, h14, hp4, ?_, fun G nG => ?_⟩
          · rw [List.length_map, List.length_map]; exact Nat.le_trans (show zs.length + (boxD (.tuple (.str k0 :: ps))).length ≤ 40 by omega) (by decide)
          · obtain ⟨z6, h6'⟩ := nw (o := .lst (zs.map V.str ++ (boxD (.tuple (.str k0 :: ps))).map V.str)) nG
            refine q _ G (zs ++ boxD (.tuple (.str k0 :: ps))) ((x03.trans x4).f G nG) ((x03.trans x4).trans z6) (by rw [h6', List.map_append]) (fun z hz => ?_) (by rw [List.length_append]; omega)
            rcases List.mem_append.mp hz with m | m
            · exact h2 z m
            · exact hD.b z (bl.2 z m)
end
end K41

set_option maxHeartbeats 8000000
namespace K41
open PySem PySem.Spec PyProof.Rows L2 Kk RZ
/-! all names -/
theorem mem_putK {kvs : List (Key × V)} {k : Key} {v : V} {p : Key × V} (h : p ∈ putK kvs k v) : p.1 = k ∨ ∃ p' ∈ kvs, p'.1 = p.1 := by
  unfold putK at h
  split at h
  · obtain ⟨kv, hk, e⟩ := List.mem_map.mp h
    refine .inr ⟨kv, hk, ?_⟩
    rw [← e]
    split <;> rfl
  · rcases List.mem_append.mp h with m | m
    · exact .inr ⟨p, m, rfl⟩
    · rw [List.mem_singleton.mp m]; exact .inl rfl
def slR (fs : List PyData) : Nat := (fs.map fun r => (itm r).length).sum
theorem slR_cons (r : PyData) (fs : List PyData) : slR (r :: fs) = (itm r).length + slR fs := by unfold slR; rw [List.map_cons, List.sum_cons]
theorem slR_app (a b : List PyData) : slR (a ++ b) = slR a + slR b := by unfold slR; rw [List.map_append, List.sum_append]
theorem slR_perm {a b : List PyData} (h : a.Perm b) : slR a = slR b := by
  induction h with
  | nil => rfl
  | cons x _ ih => rw [slR_cons, slR_cons, ih]
  | swap x y l => simp only [slR_cons]; omega
  | trans _ _ p q => exact p.trans q
theorem slR_take (fs : List PyData) (i : Nat) : slR (fs.take i) ≤ slR fs := by
  have := slR_app (fs.take i) (fs.drop i)
  rw [List.take_append_drop] at this; omega
theorem slR_le {fs : List PyData} {c : Nat} (h : ∀ r ∈ fs, (itm r).length ≤ c) : slR fs ≤ fs.length * c := by
  induction fs with
  | nil => simp [slR]
  | cons r fs ih =>
    rw [slR_cons, List.length_cons, Nat.succ_mul]
    have := h r List.mem_cons_self
    have := ih fun r hr => h r (List.mem_cons_of_mem _ hr)
    omega
theorem slR_all {D : Dm} {l : Nat} {r : PyData} (h : Rw D 320 1 l r) : slR (allR 1 r) ≤ 4160 := by
  obtain ⟨ws, rfl, hc, hw⟩ := h
  have e : allR 1 (.tuple ws) = .tuple ws :: ws.flatMap fun w => (innD w).flatMap (allR 0) := rfl
  rw [e, slR_cons]
  have e2 : (ws.flatMap fun w => (innD w).flatMap (allR 0)) = ws.flatMap innD := by
    congr 1; funext w
    show (innD w).flatMap (fun r => [r]) = innD w
    simp
  rw [e2]
  have l1 : (ws.flatMap innD).length ≤ ws.length * 4 := flat_le innD 4 ws fun w hw' => (wd_inn (hw w hw')).1
  have l2 : slR (ws.flatMap innD) ≤ (ws.flatMap innD).length * 3 := slR_le fun r hr => by
    obtain ⟨w, hw', hr'⟩ := List.mem_flatMap.mp hr
    obtain ⟨m', l', _, ws', rfl, c3, _⟩ := (wd_inn (hw w hw')).2 r hr'
    exact c3
  have : (itm (.tuple ws)).length ≤ 320 := hc
  omega
structure DsOk (D : Dm) (ds : List DfX) (main : List PyData) : Prop where
  dq : DQ D
  six : D.boxes.length = 6
  main : Rw D 320 1 9 (.tuple main)
  len : ds.length ≤ 6
  df : ∀ x ∈ ds, Qs x.a ∧ (∀ z ∈ x.xs, Qs z) ∧ (∀ z ∈ x.ys, Qs z) ∧ x.xs.length ≤ 4 ∧ x.ys.length ≤ 4 ∧ Rw D 320 1 9 (.tuple x.ws)
theorem split_tl (a : Str) : (Txt.split a dotS).map TL.tl = TL.spl [46] 0 [] (TL.tl a) := by
  have h := TL.split_spl a dotS (by rw [dot_tl]; simp) (TL.kind_ok (by decide +kernel))
  rw [dot_tl] at h; exact h
theorem split_none {a : Str} (h : 46 ∉ TL.tl a) : Txt.split a dotS = [a] := by
  refine TL.map_tl_inj ?_
  rw [split_tl, TL.spl_last1 h]; rfl
section
variable {P : Program} {w : World} {K : PySem.W.Frag} {mg : Str → Option Value} {base : Heap}
/-- a def's parts -/
theorem Pg.parts {K : PySem.W.Frag} {H : Hp} {p q : Addr} {ds : List DfX} {main : List PyData} {xs : List V} {rv : V} (h : Pg K H p q ds main xs rv) {i : Nat} {u : V} (e : xs[i]? = some u) :
    ∃ x o a b r, ds[i]? = some x ∧ u = .ref o ∧ SqT K H o [.str x.a, .ref a, .ref b, r] ∧ SqT K H a (x.xs.map V.str) ∧ SqT K H b (x.ys.map V.str) ∧ Tp K H r (.tuple x.ws) := by
  obtain ⟨d, hd, td⟩ := h.d.get e
  rw [List.getElem?_map] at hd
  cases hx : ds[i]? with
  | none => rw [hx] at hd; cases hd
  | some x =>
    rw [hx] at hd
    cases hd
    unfold DfX.d at td
    have st : ∀ {us : List V} {zs : List Str}, TpAll K H us (zs.map PyData.str) → us = zs.map V.str := by
      intro us zs
      induction zs generalizing us with
      | nil => intro h; cases h; rfl
      | cons z zs ih =>
        intro h
        cases h with
        | cons h1 h2 => cases h1; rw [ih h2]; rfl
    cases td with
    | tup hs ha =>
      cases ha with
      | cons a1 r1 =>
        cases a1
        cases r1 with
        | cons a2 r2 =>
          cases r2 with
          | cons a3 r3 =>
            cases r3 with
            | cons a4 r4 =>
              cases r4
              cases a2 with
              | tup s2 t2 =>
                cases a3 with
                | tup s3 t3 =>
                  rw [st t2] at s2
                  rw [st t3] at s3
                  exact ⟨x, _, _, _, _, rfl, rfl, hs, s2, s3, a4⟩
abbrev s_names_in : Stmt := topS 27
abbrev n_names_in : List Str := ["program", "texts", "rows", "name", "params", "results", "row", "inner", "word", "text"]
theorem sc_names_in : FnScope n_names_in ["program"] (defScope s_names_in) := ⟨rfl, rfl, rfl, by decide +kernel, rfl, by decide +kernel, by decide +kernel⟩
def spNamesIn (K : PySem.W.Frag) : Sp := fun vs H Q _ => ∃ (p q : Addr) (ds : List DfX) (main : List PyData) (xs : List V) (rv : V) (D : Dm), vs = [.ref p] ∧ Pg K H p q ds main xs rv ∧ DsOk D ds main ∧
  ∀ H' d kvs, Ex [] H H' → H' d = some (.dK kvs) → (∀ p ∈ kvs, ∃ z : Str, p.1 = .inr z ∧ (TL.tl z).head? = some 113) → Q (.ref d) H'
theorem ok_names_in {f f1 f2 : Addr} {fd d1 d2 : FuncData} {k : Nat} (F : Fun K "names_in" "names_in" s_names_in f fd) (CA : Cl P w K mg base k "all_rows" ["row"] (spAllRows K) f1 d1) (CT : Cl P w K mg base k "texts_of" ["word"] (spTextsOf K) f2 d2) : FnOk P w K mg base CX0 (k + 1) f fd ["program"] (spNamesIn K) := by
  refine F.ok sc_names_in (fun vs H Q E h => ?_) (fun cdv A outer s H vs Q E hr h => ?_)
  · obtain ⟨p, q, ds, main, xs, rv, D, rfl, _⟩ := h; rfl
  · obtain ⟨p, q0, ds, main, xs, rv, D, rfl, hP, hD, q⟩ := h
    refine ⟨_, (pss_cons (ps_set (i := 1) sc_names_in.nd rfl (.inl rfl) (pe_lst pa_nil))
      (pss_cons (ps_set (i := 2) sc_names_in.nd rfl (.inl rfl) (pe_lst (pa_cons (pe_ix ix_tup (pv 0) pe_int (fun _ _ => rfl)) pa_nil)))
      (pss_cons (ps_for PassesOwn.never rfl (pi_tup (pe_ix ix_tup (pv 0) pe_int (fun _ _ => rfl))) (pg_tup rfl (pgs_cons (pg_name (i := 3) sc_names_in.nd rfl (.inl rfl)) (pgs_cons (pg_name (i := 4) sc_names_in.nd rfl (.inl rfl)) (pgs_cons (pg_name (i := 5) sc_names_in.nd rfl (.inl rfl)) (pgs_cons (pg_name (i := 6) sc_names_in.nd rfl (.inl rfl)) pgs_nil)))))
        (pss_cons (ps_expr (pe_bm PySem.F.plainAttrs_list PySem.F.slot_list_extend PySem.F.type_list_extend mt_extend (pv 1) (pa_cons (pe_lst (pa_cons (pv 3) (StX.pa_star (pv 4) (StX.pa_star (pv 5) pa_nil)))) pa_nil)))
        (pss_one (ps_expr (pe_bm PySem.F.plainAttrs_list PySem.F.slot_list_append PySem.F.type_list_append mt_append (pv 2) (pa_cons (pv 6) pa_nil))))))
      (pss_cons (ps_for PassesOwn.never rfl (pi_list (pv 2)) (pg_name (i := 6) sc_names_in.nd rfl (.inl rfl))
        (pss_one (ps_expr (pe_bm PySem.F.plainAttrs_list PySem.F.slot_list_extend PySem.F.type_list_extend mt_extend (pv 1) (pa_cons
          (pe_lc3 (own := [("inner", 7), ("word", 8), ("text", 9)]) (vs1 := [8, 9]) (vs2 := [9]) (g := gName 7) (g1 := gName 8) (g2 := gName 9) (tt := tYes) (tt1 := tYes) (tt2 := tYes) rfl sc_names_in.nd
            (pi_list (pe_call CA.g hr (by rfl) CA.m CA.k CA.b .nil pass0 (pa_cons (pv 6) pa_nil))) (blkOk_by (N := n_names_in) (sc := defScope s_names_in) (by decide +kernel)) (by decide) (by decide)
            (fun _ _ _ _ _ => pg_name (i := 7) sc_names_in.nd rfl (Or.inl rfl)) (fun _ _ _ _ _ => pts_nil) (fun _ _ _ _ _ => pi_tupK (K := K) rfl (pv 7)) (fun _ _ _ _ _ => pg_name (i := 8) sc_names_in.nd rfl (Or.inl rfl)) (fun _ _ _ _ _ => pts_nil)
            (fun _ _ _ _ _ => pi_listK (K := K) rfl (pe_call CT.g hr (by rfl) CT.m CT.k CT.b .nil pass0 (pa_cons (pv 8) pa_nil))) (fun _ _ _ _ _ => pg_name (i := 9) sc_names_in.nd rfl (Or.inl rfl)) (fun _ _ _ _ _ => pts_nil)
            (fun _ _ _ _ _ => pv 9)) pa_nil)))))
      (pss_one (ps_ret (pe_dc2 (own := [("text", 9), ("name", 3)]) (vs1 := [3]) (g := gName 9) (g1 := gName 3) (tt := tYes) (tt1 := tYes) rfl sc_names_in.nd (pi_list (pv 1)) (blkOk_by (N := n_names_in) (sc := defScope s_names_in) (by decide +kernel)) (by decide)
        (fun _ _ _ _ _ => pg_name (i := 9) sc_names_in.nd rfl (Or.inl rfl)) (fun _ _ _ _ _ => pts_nil) (fun _ _ _ _ _ => pi_listK (K := K) rfl (pe_split (pv 9) pe_str)) (fun _ _ _ _ _ => pg_name (i := 3) sc_names_in.nd rfl (Or.inl rfl)) (fun _ _ _ _ _ => pts_nil)
        (fun _ _ _ _ _ => pv 3) (fun _ _ _ _ _ => pe_bl))))))))  , ?_⟩
    have sml : ∀ n : Nat, n ≤ 10000000 → n < sizeLine := fun n h => Nat.lt_of_le_of_lt h (by decide)
    have h6 := hD.six
    refine ⟨(by show 0 ≤ sizeLine; decide), fun A1 nA => ?_⟩
    obtain ⟨yA, hA⟩ := nw (o := .lst []) nA
    have hPA := hP.ex yA
    refine ⟨.ref p, rfl, p, _, 1, _, rfl, rfl, hPA.s, rfl, (by show 1 ≤ sizeLine; decide), fun B nB => ?_⟩
    obtain ⟨yB, hB⟩ := nw (o := .lst [rv]) nB
    have hAB := yB.lst hA
    have hPB := hPA.ex yB
    have AB : A1 ≠ B := ne_of_none hA nB
    have x2 : Ex [] H _ := yA.trans yB
    generalize upd (upd H A1 (.lst [])) B (.lst [rv]) = H2 at hB hAB hPB x2 ⊢
    have nB0 : H B = none := yA.f B nB
    refine ⟨.ref p, rfl, p, _, 0, _, rfl, rfl, hPB.s, rfl, q0, rfl, ⟨xs, hPB.t⟩, for_tup (a := q0) (xs := xs) (fun i σ H3 => ∃ (y3 y4 y5 y6 y7 y8 y9 : Option V) (zs : List Str) (us : List V), σ = [some (.ref p), some (.ref A1), some (.ref B), y3, y4, y5, y6, y7, y8, y9] ∧
      H3 A1 = some (.lst (zs.map V.str)) ∧ H3 B = some (.lst us) ∧ (∀ z ∈ zs, Qs z) ∧ zs.length ≤ 9 * i ∧ us.length = 1 + i ∧ i ≤ 6 ∧ Ex [A1, B] H2 H3 ∧ (∃ rs, TpAll K H3 us rs ∧ ∀ r ∈ rs, Rw D 320 1 9 r)) ?_ ?_ ?_ ?_⟩
    · exact ⟨_, _, _, _, _, _, _, [], [rv], rfl, hAB, hB, by simp, by simp, rfl, by omega, .refl, [_], .cons hPB.r .nil, fun r hr => by rw [List.mem_singleton.mp hr]; exact hD.main⟩
    · rintro i σ H3 _ ⟨_, _, _, _, _, _, _, zs, us, _, _, _, _, _, _, _, x3, _⟩
      exact x3.seqT hPB.t
    · rintro i u σ H3 hu ⟨y3, y4, y5, y6, y7, y8, y9, zs, us, rfl, h1, h2, h3, h4, h5, h6', x3, rs, tr, hrs⟩
      obtain ⟨x, o, a, b, r, hx, rfl, e1, e2, e3, e4⟩ := (hPB.ex x3).parts hu
      have hi6 : i < ds.length := (List.getElem?_eq_some_iff.mp hx).1
      have hl6 := hD.len
      obtain ⟨d1', d2', d3', d4', d5', d6'⟩ := hD.df x (List.mem_of_getElem? hx)
      refine ⟨o, _, rfl, e1, rfl, _, _, rfl, _, _, rfl, _, _, rfl, _, _, rfl, rfl, ?_⟩
      refine ⟨.ref A1, rfl, .inl ⟨rfl, _, .of h1⟩, .str x.a, rfl, .ref a, rfl, a, _, rfl, .inl e2, .ref b, rfl, b, _, rfl, .inl e3, ?_⟩
      refine ⟨?_, fun L nL => ?_⟩
      · show ([V.str x.a] ++ (x.xs.map V.str ++ (x.ys.map V.str ++ []))).length ≤ sizeLine
        simp only [List.length_append, List.length_map, List.length_cons, List.length_nil]
        exact Nat.le_of_lt (sml _ (by omega))
      · obtain ⟨yL, hL⟩ := nw (o := .lst ((x.a :: (x.xs ++ x.ys)).map V.str)) nL
        have eL : (V.str x.a :: (x.xs.map V.str ++ (x.ys.map V.str ++ []))) = (x.a :: (x.xs ++ x.ys)).map V.str := by simp
        have eL2 : [V.str x.a] ++ (x.xs.map V.str ++ (x.ys.map V.str ++ [])) = (x.a :: (x.xs ++ x.ys)).map V.str := by simp
        simp only [eL]
        refine ⟨A1, L, _, _, rfl, rfl, yL.lst h1, hL, ?_, ?_⟩
        · simp only [List.length_map, List.length_cons, List.length_append]
          exact Nat.le_of_lt (sml _ (by omega))
        have h1L := yL.lst h1
        have h2L := yL.lst h2
        obtain ⟨z1, hz1⟩ := pw (o := .lst (zs.map V.str ++ (x.a :: (x.xs ++ x.ys)).map V.str)) h1L
        have h2z := z1.lst h2L (by simpa using AB.symm)
        refine ⟨.ref B, rfl, .inl ⟨rfl, _, .of h2z⟩, r, rfl, B, _, _, rfl, rfl, h2z, sml _ (by omega), ?_⟩
        obtain ⟨z2, hz2⟩ := pw (o := .lst (us ++ [r])) h2z
        have x4 : Ex [A1, B] H2 _ := ((x3.trans yL.nil).trans (z1.mono fun b hb => by simp at hb; simp [hb])).trans (z2.mono fun b hb => by simp at hb; simp [hb])
        refine ⟨_, _, _, _, _, _, _, zs ++ (x.a :: (x.xs ++ x.ys)), us ++ [r], rfl, ?_, hz2, ?_, ?_, ?_, by omega, x4, rs ++ [.tuple x.ws], ?_, ?_⟩
        · rw [List.map_append]; exact z2.lst hz1 (by simpa using AB)
        · intro z hz
          simp only [List.mem_append, List.mem_cons] at hz
          rcases hz with hz | hz | hz | hz
          · exact h3 z hz
          · rw [hz]; exact d1'
          · exact d2' z hz
          · exact d3' z hz
        · simp only [List.length_append, List.length_cons]; omega
        · rw [List.length_append, h5]; simp; omega
        · exact (((tr.ex yL).ex z1).ex z2).app (.cons (((e4.ex yL).ex z1).ex z2) .nil)
        · intro r' hr'
          rcases List.mem_append.mp hr' with m | m
          · exact hrs r' m
          · rw [List.mem_singleton.mp m]; exact d6'
    · rintro σ H3 ⟨y3, y4, y5, y6, y7, y8, y9, zs, us, rfl, h1, h2, h3, h4, h5, h6', x3, rs, tr, hrs⟩
      have hus : us.length ≤ 7 := by omega
      have hzs : zs.length ≤ 54 := by omega
      refine ⟨.ref B, rfl, B, rfl, ⟨us, .of h2⟩, for_list (a := B) (xs := us) (fun i σ H4 => ∃ (y3 y4 y5 y6 y7 y8 y9 : Option V) (zs : List Str), σ = [some (.ref p), some (.ref A1), some (.ref B), y3, y4, y5, y6, y7, y8, y9] ∧
        H4 A1 = some (.lst (zs.map V.str)) ∧ (∀ z ∈ zs, Qs z) ∧ zs.length ≤ 54 + i * 83200 ∧ i ≤ us.length ∧ Ex [A1] H3 H4) ?_ ?_ ?_ ?_⟩
      · exact ⟨_, _, _, _, _, _, _, zs, rfl, h1, h3, by omega, Nat.zero_le _, .refl⟩
      · rintro i σ H4 _ ⟨_, _, _, _, _, _, _, zs, _, _, _, _, _, x4⟩
        exact .of (x4.lst h2 (by simpa using AB.symm))
      · rintro i u σ H4 hu ⟨y3, y4, y5, y6, y7, y8, y9, zs2, rfl, g1, g2, g3, g4, x4⟩
        obtain ⟨r, hr, tu⟩ := tr.get hu
        have hR := hrs r (List.mem_of_getElem? hr)
        have hi : i < us.length := (List.getElem?_eq_some_iff.mp hu).1
        refine ⟨.ref A1, rfl, .inl ⟨rfl, _, .of g1⟩, ?_⟩
        refine ⟨u, rfl, u, r, D, 1, 9, rfl, tu.ex x4, hR, Nat.le_refl _, fun H5 pp fsv fs np x5 hp tF pf => ⟨pp, rfl, ⟨fsv, .of hp⟩, fun Dd nD => ?_⟩⟩
        have hrw : ∀ x ∈ fs, ∃ m' l' ws, x = .tuple ws ∧ ws.length ≤ 320 ∧ ∀ w ∈ ws, Wd D m' l' w := fun x hx => by
          obtain ⟨m', l', _, ws, e⟩ := all_rw 1 320 9 r (by decide) hR x (pf.mem_iff.mp hx)
          exact ⟨m', l', ws, e⟩
        have tot : slR fs ≤ 4160 := by rw [slR_perm pf]; exact slR_all hR
        have lf : fsv.length = fs.length := tF.len
        have pD : pp ≠ Dd := ne_of_none hp nD
        obtain ⟨y0, hD0⟩ := nw (o := .lst []) nD
        have g1D := y0.lst (x5.lst g1)
        generalize upd H5 Dd (.lst []) = H50 at y0 hD0 g1D
        have tF0 := tF.ex y0
        have hp0 := y0.lst hp
        refine lv_list (a := pp) (xs := fsv) (fun i2 H6 => ∃ ts : List Str, H6 Dd = some (.lst (ts.map V.str)) ∧ (∀ z ∈ ts, Qs z) ∧ ts.length ≤ 20 * slR (fs.take i2) ∧ Ex [Dd] H50 H6) ⟨[], hD0, by simp, by simp, .refl⟩
          (fun i2 H6 _ ⟨_, _, _, _, x6⟩ => .of (x6.lst hp0 (by simpa using pD))) (fun i2 x H6 hx ⟨ts, k1, k2, k3, x6⟩ => ?_) (fun H6 ⟨ts, k1, k2, k3, x6⟩ => ?_)
        · obtain ⟨d, hd, td⟩ := tF0.get hx
          obtain ⟨m', l', ws, rfl, c12, hw⟩ := hrw d (List.mem_of_getElem? hd)
          have hi2 : i2 < fs.length := (List.getElem?_eq_some_iff.mp hd).1
          have eti : slR (fs.take (i2 + 1)) = slR (fs.take i2) + ws.length := by
            rw [List.take_add_one, hd, slR_app]; simp [slR, itm]
          have lei := slR_take fs (i2 + 1)
          refine ⟨rfl, tyes_if ?_⟩
          cases td with
          | tup hs ha =>
            rename_i a us2
            refine ⟨.ref a, rfl, a, rfl, ⟨us2, x6.seqT hs⟩, lv_tup (a := a) (xs := us2) (fun j H7 => ∃ ts : List Str, H7 Dd = some (.lst (ts.map V.str)) ∧ (∀ z ∈ ts, Qs z) ∧ ts.length ≤ 20 * (slR (fs.take i2) + j) ∧ j ≤ ws.length ∧ Ex [Dd] H50 H7) ⟨ts, k1, k2, by omega, Nat.zero_le _, x6⟩
              (fun j H7 _ ⟨_, _, _, _, _, x7⟩ => x7.seqT hs) (fun j x3' H7 hx3 ⟨ts2, m1, m2, m3, m4, x7⟩ => ?_) (fun H7 ⟨ts2, m1, m2, m3, m4, x7⟩ => ?_)⟩
            · obtain ⟨wd, hwd, tw⟩ := ha.get hx3
              have hj : j < ws.length := (List.getElem?_eq_some_iff.mp hwd).1
              have hW := hw wd (List.mem_of_getElem? hwd)
              refine ⟨rfl, tyes_if ?_⟩
              refine ⟨x3', rfl, x3', wd, D, m', l', rfl, tw.ex x7, hW, h6, hD.dq, fun H8 pB zs3 nB' x8 hB' qz lz => ⟨pB, rfl, ⟨_, .of hB'⟩, ?_⟩⟩
              have hD8 := x8.lst m1
              have BD : pB ≠ Dd := (ne_of_none m1 nB').symm
              refine lv_list (a := pB) (xs := zs3.map V.str) (fun z H9 => ∃ ts : List Str, H9 Dd = some (.lst (ts.map V.str)) ∧ (∀ z ∈ ts, Qs z) ∧ ts.length ≤ 20 * (slR (fs.take i2) + j) + z ∧ Ex [Dd] H8 H9) ⟨ts2, hD8, m2, by omega, .refl⟩
                (fun z H9 _ ⟨_, _, _, _, x9⟩ => .of (x9.lst hB' (by simpa using BD))) (fun z x5' H9 hx5 ⟨ts3, o1, o2, o3, x9⟩ => ?_) (fun H9 ⟨ts3, o1, o2, o3, x9⟩ => ?_)
              · rw [List.getElem?_map] at hx5
                cases hb : zs3[z]? with
                | none => rw [hb] at hx5; cases hx5
                | some bx =>
                  rw [hb] at hx5
                  cases hx5
                  have hz : z < zs3.length := (List.getElem?_eq_some_iff.mp hb).1
                  refine ⟨rfl, tyes_if ?_⟩
                  refine ⟨.str bx, rfl, _, o1, ?_, ?_⟩
                  · rw [List.length_map]; exact sml _ (by omega)
                  · obtain ⟨z6, hD6⟩ := pw (o := .lst (ts3.map V.str ++ [.str bx])) o1
                    refine ⟨ts3 ++ [bx], by rw [hD6, List.map_append]; rfl, fun y hy => ?_, by rw [List.length_append]; simp; omega, x9.trans z6⟩
                    rcases List.mem_append.mp hy with m | m
                    · exact o2 y m
                    · rw [List.mem_singleton.mp m]; exact qz bx (List.mem_of_getElem? hb)
              · rw [List.length_map] at o3
                exact ⟨ts3, o1, o2, by omega, hj, (x7.trans x8.nil).trans x9⟩
            · have := ha.len
              rw [this] at m3
              exact ⟨ts2, m1, m2, by rw [eti]; exact m3, x7⟩
        · rw [lf, List.take_length] at k3
          have nDH : H4 Dd = none := x5.f Dd nD
          have A1D : A1 ≠ Dd := ne_of_none (x5.lst g1) nD
          have g1' := x6.lst g1D (by simpa using A1D)
          refine ⟨A1, Dd, _, _, rfl, rfl, g1', k1, ?_, ?_⟩
          · rw [List.length_map, List.length_map]; exact Nat.le_of_lt (sml _ (by omega))
          · obtain ⟨z7, hz7⟩ := pw (o := .lst (zs2.map V.str ++ ts.map V.str)) g1'
            refine ⟨_, _, _, _, _, _, _, zs2 ++ ts, rfl, by rw [hz7, List.map_append], fun y hy => ?_, by rw [List.length_append]; omega, by omega, ?_⟩
            · rcases List.mem_append.mp hy with m | m
              · exact g2 y m
              · exact k2 y m
            · have xa : Ex [] H4 H6 := Ex.own nDH (x5.trans y0) x6
              exact (x4.trans xa.nil).trans z7
      · rintro σ H4 ⟨y3, y4, y5, y6, y7, y8, y9, zs2, rfl, g1, g2, g3, g4, x4⟩
        have x04 : Ex [] H H4 := Ex.own2 nA nB0 x2 (x3.trans (x4.mono fun b hb => by simp at hb; simp [hb]))
        refine ⟨.ref A1, rfl, A1, rfl, ⟨_, .of g1⟩, fun Dd nD => ?_⟩
        have A1D : A1 ≠ Dd := ne_of_none g1 nD
        obtain ⟨y0, hD0⟩ := nw (o := .dK []) nD
        have g10 := y0.lst g1
        have x05 := x04.trans y0
        have hus7 : us.length * 83200 ≤ 7 * 83200 := Nat.mul_le_mul_right _ hus
        generalize upd H4 Dd (.dK []) = H50 at y0 hD0 g10 x05
        refine lv_list (a := A1) (xs := zs2.map V.str) (fun i H6 => ∃ kvs : List (Key × V), H6 Dd = some (.dK kvs) ∧ (∀ p ∈ kvs, ∃ z : Str, p.1 = .inr z ∧ (TL.tl z).head? = some 113) ∧ kvs.length ≤ i ∧ Ex [Dd] H50 H6) ⟨[], hD0, by simp, by simp, .refl⟩
          (fun i H6 _ ⟨_, _, _, _, x6⟩ => .of (x6.lst g10 (by simpa using A1D))) (fun i x H6 hx ⟨kvs, k1, k2, k3, x6⟩ => ?_) (fun H6 ⟨kvs, k1, k2, k3, x6⟩ => ?_)
        · rw [List.getElem?_map] at hx
          cases hb : zs2[i]? with
          | none => rw [hb] at hx; cases hx
          | some z =>
            rw [hb] at hx
            cases hx
            have hi : i < zs2.length := (List.getElem?_eq_some_iff.mp hb).1
            have qz := g2 z (List.mem_of_getElem? hb)
            refine ⟨rfl, tyes_if ?_⟩
            refine ⟨.str z, rfl, ⟨_, rfl⟩, z, Str.ofString ".", rfl, rfl, by decide +kernel, Nat.le_of_lt (sml _ (by have := qz.2.2; omega)), fun pS nS => ?_⟩
            have es : Txt.split z (Str.ofString ".") = [z] := split_none qz.2.1
            obtain ⟨yS, hS⟩ := nw (o := .lst ((Txt.split z (Str.ofString ".")).map V.str)) nS
            have hS' : (upd H6 pS (.lst ((Txt.split z (Str.ofString ".")).map V.str))) pS = some (.lst [V.str z]) := by rw [hS, es]; rfl
            have k1S := yS.a Dd _ (by simp) k1 (fun _ z => by cases z)
            have SD : pS ≠ Dd := (ne_of_none k1 nS).symm
            generalize upd H6 pS (.lst ((Txt.split z (Str.ofString ".")).map V.str)) = H7 at yS hS' k1S ⊢
            refine ⟨pS, rfl, ⟨_, .of hS'⟩, lv_list (a := pS) (xs := [V.str z]) (fun j H8 => ∃ kvs : List (Key × V), H8 Dd = some (.dK kvs) ∧ (∀ p ∈ kvs, ∃ z : Str, p.1 = .inr z ∧ (TL.tl z).head? = some 113) ∧ kvs.length ≤ i + j ∧ Ex [Dd] H7 H8) ⟨kvs, k1S, k2, by omega, .refl⟩
              (fun j H8 _ ⟨_, _, _, _, x8⟩ => .of (x8.lst hS' (by simpa using SD))) (fun j x H8 hx ⟨kvs, k1, k2, k3, x8⟩ => ?_) (fun H8 ⟨kvs, k1, k2, k3, x8⟩ => ?_)⟩
            · have hj : j = 0 := by
                have := (List.getElem?_eq_some_iff.mp hx).1
                simpa using this
              subst hj
              cases hx
              refine ⟨rfl, tyes_if ?_⟩
              refine ⟨.str z, rfl, kvs, .inr z, rfl, k1, sml _ (by omega), ?_⟩
              have xp : Ex [Dd] H8 (upd H8 Dd (.dK (putK kvs (.inr z) (.bl true)))) := .put k1 nt_dK (by simp)
              refine ⟨_, upd_same, fun p hp => ?_, ?_, x8.trans xp⟩
              · rcases mem_putK hp with e | ⟨p', hp', e⟩
                · exact ⟨z, e, qz.1⟩
                · obtain ⟨z', e', q'⟩ := k2 p' hp'
                  exact ⟨z', by rw [← e, e'], q'⟩
              · have := length_putK kvs (.inr z) (.bl true); omega
            · exact ⟨kvs, k1, k2, by simpa using k3, (x6.trans yS.nil).trans x8⟩
        · exact q H6 Dd kvs (Ex.own (x04.f Dd nD) x05 x6) k1 k2
end
end K41

set_option maxHeartbeats 8000000
namespace K41
open PySem PySem.Spec PyProof.Rows L2 Kk RZ
theorem op_notInK {X : Cx} {K : PySem.W.Frag} (h : X.K = K) : OpR X (compareOp .NotIn) (rIn K true) := by subst h; exact op_notIn_seq
theorem cat_any {K : PySem.W.Frag} {H : Hp} {a b : Addr} {xs ys : List V} {Q : VK} (ha : SqT K H a xs) (hb : SqT K H b ys) (hl : xs.length + ys.length ≤ sizeLine) (q : ∀ p H', Ex [] H H' → SqT K H' p (xs ++ ys) → Q (.ref p) H') : rCatA K (.ref a) (.ref b) H Q := by
  refine ⟨a, b, xs, ys, rfl, rfl, ha, hb, hl, fun e => ?_, fun _ e => ?_, fun _ _ p np => ?_⟩
  · subst e; exact q b H .refl hb
  · subst e; refine q a H .refl ?_; rw [List.append_nil]; exact ha
  · exact q p _ (.new np) (.of upd_same)
theorem strs_of {K : PySem.W.Frag} {H : Hp} : ∀ {us : List V} {zs : List Str}, TpAll K H us (zs.map PyData.str) → us = zs.map V.str
  | _, [], h => by cases h; rfl
  | _, z :: zs, h => by
    cases h with
    | cons h1 h2 => cases h1; rw [strs_of h2]; rfl
/-! the boxes of a def -/
def DfV (K : PySem.W.Frag) (H : Hp) (o : Addr) (x : DfX) : Prop := ∃ a b r, SqT K H o [.str x.a, .ref a, .ref b, r] ∧ SqT K H a (x.xs.map V.str) ∧ SqT K H b (x.ys.map V.str) ∧ Tp K H r (.tuple x.ws)
theorem DfV.ex {K : PySem.W.Frag} {H H' : Hp} {o : Addr} {x : DfX} {as : List Addr} (h : DfV K H o x) (e : Ex as H H') : DfV K H' o x := by
  obtain ⟨a, b, r, h1, h2, h3, h4⟩ := h
  exact ⟨a, b, r, e.seqT h1, e.seqT h2, e.seqT h3, h4.ex e⟩
structure DfO (D : Dm) (x : DfX) : Prop where
  dq : DQ D
  six : D.boxes.length = 6
  nr : D.recs = []
  rw_ : Rw D 320 1 9 (.tuple x.ws)
  xs : ∀ z ∈ x.xs, z ∈ D.boxes
  ys : ∀ z ∈ x.ys, z ∈ D.boxes
  lx : x.xs.length ≤ 4
  ly : x.ys.length ≤ 4
def InB (x : DfX) (z : Str) : Prop := z ∈ bxAll 1 (.tuple x.ws) ∨ z ∈ x.xs ∨ z ∈ x.ys
theorem bx_sub {D : Dm} {l : Nat} {r : PyData} (h6 : D.boxes.length = 6) (h : Rw D 320 1 l r) : ∀ z ∈ bxAll 1 r, z ∈ D.boxes := by
  intro z hz
  obtain ⟨r', h1, h2⟩ := List.mem_flatMap.mp hz
  obtain ⟨m', l', _, ws, rfl, c, hw⟩ := all_rw 1 320 l r (by decide) h r' h1
  obtain ⟨wd, h3, h4⟩ := List.mem_flatMap.mp h2
  exact (box_mem h6 (hw wd h3)).2 z h4
theorem DfO.inb {D : Dm} {x : DfX} (h : DfO D x) {z : Str} (hz : InB x z) : z ∈ D.boxes := by
  rcases hz with m | m | m
  · exact bx_sub h.six h.rw_ z m
  · exact h.xs z m
  · exact h.ys z m
theorem DfO.len {D : Dm} {x : DfX} (h : DfO D x) {ys : List Str} (nd : ys.Nodup) (hm : ∀ z, z ∈ ys ↔ InB x z) : ys.length ≤ 6 := by
  have := Kk.sub_len ys D.boxes nd fun z hz => h.inb ((hm z).mp hz)
  rw [h.six] at this; exact this
section
variable {P : Program} {w : World} {K : PySem.W.Frag} {mg : Str → Option Value} {base : Heap}
abbrev s_boxes_of_def : Stmt := topS 28
abbrev n_boxes_of_def : List Str := ["one", "name", "params", "results", "row"]
theorem sc_boxes_of_def : FnScope n_boxes_of_def ["one"] (defScope s_boxes_of_def) := ⟨rfl, rfl, rfl, by decide +kernel, rfl, by decide +kernel, by decide +kernel⟩
def spBxDef (K : PySem.W.Frag) : Sp := fun vs H Q _ => ∃ (o : Addr) (x : DfX) (D : Dm), vs = [.ref o] ∧ DfV K H o x ∧ DfO D x ∧
  ∀ H' p (ys : List Str), H p = none → Ex [] H H' → H' p = some (.lst (ys.map V.str)) → ys.Nodup → (∀ z, z ∈ ys ↔ InB x z) → Q (.ref p) H'
theorem ok_bx_def {f f1 : Addr} {fd d1 : FuncData} {k : Nat} (F : Fun K "boxes_of_def" "boxes_of_def" s_boxes_of_def f fd) (C_boxes_in : Cl P w K mg base k "boxes_in" ["row"] (spBoxesIn K) f1 d1) (m_set : mg "set" = none) (m_sorted : mg "sorted" = none) :
    FnOk P w K mg base CX0 (k + 1) f fd ["one"] (spBxDef K) := by
  refine F.ok sc_boxes_of_def (fun vs H Q E h => ?_) (fun cdv A outer s H vs Q E hr h => ?_)
  · obtain ⟨o, x, D, rfl, _⟩ := h; rfl
  · obtain ⟨o, x, D, rfl, hV, hD, q⟩ := h
    refine ⟨_, (pss_cons (ps_asg (pv 0) (pg_tup rfl (pgs_cons (pg_name (i := 1) sc_boxes_of_def.nd rfl (.inl rfl)) (pgs_cons (pg_name (i := 2) sc_boxes_of_def.nd rfl (.inl rfl)) (pgs_cons (pg_name (i := 3) sc_boxes_of_def.nd rfl (.inl rfl)) (pgs_cons (pg_name (i := 4) sc_boxes_of_def.nd rfl (.inl rfl)) pgs_nil))))))
      (pss_one (ps_ret (pe_callB (call_sortSetS rfl) (by rfl) m_sorted (by decide +kernel) (pa_cons (pe_callTy (call_setT rfl) (by rfl) m_set (by decide +kernel) (pa_cons (pe_op op_catA (pe_op op_catA (pe_call C_boxes_in.g hr (by rfl) C_boxes_in.m C_boxes_in.k C_boxes_in.b .nil pass0 (pa_cons (pv 4) pa_nil)) (pv 2)) (pv 3)) pa_nil)) pa_nil))))), ?_⟩
    obtain ⟨a, b, r, h1, h2, h3, h4⟩ := hV
    refine ⟨.ref o, rfl, o, _, rfl, h1, rfl, _, _, rfl, _, _, rfl, _, _, rfl, _, _, rfl, rfl, ?_⟩
    refine ⟨r, rfl, r, _, D, 1, 9, rfl, h4, hD.rw_, Nat.le_refl _, hD.six, fun H1 u ys x1 tu s1 s2 s3 => ?_⟩
    cases tu with
    | tup hu hau =>
      rename_i p us
      have eu : us = ys.map V.str := by
        exact strs_of hau
      subst eu
      have l6 : ys.length ≤ 6 := by
        have := Kk.sub_len ys D.boxes s2 fun z hz => bx_sub hD.six hD.rw_ z ((s3 z).mp hz)
        rw [hD.six] at this; exact this
      have lx := hD.lx
      have ly := hD.ly
      refine ⟨.ref a, rfl, cat_any hu (x1.seqT h2) (by rw [List.length_map, List.length_map]; exact Nat.le_trans (show ys.length + x.xs.length ≤ 20 by omega) (by decide)) fun p2 H2 x2 t2 => ?_⟩
      refine ⟨.ref b, rfl, cat_any t2 ((x1.trans x2).seqT h3) (by rw [List.length_append, List.length_map, List.length_map, List.length_map]; exact Nat.le_trans (show ys.length + x.xs.length + x.ys.length ≤ 20 by omega) (by decide)) fun p3 H3 x3 t3 => ?_⟩
      have e3 : ys.map V.str ++ x.xs.map V.str ++ x.ys.map V.str = (ys ++ x.xs ++ x.ys).map V.str := by simp
      rw [e3] at t3
      refine ⟨p3, ys ++ x.xs ++ x.ys, rfl, t3, by rw [List.length_append, List.length_append]; omega, fun S nS => ?_⟩
      have zS : Ex [] H3 (upd H3 S (SetS w S (ys ++ x.xs ++ x.ys))) := .new nS
      refine ⟨S, ys ++ x.xs ++ x.ys, ys ++ x.xs ++ x.ys, rfl, upd_same, fun _ z => z, by rw [List.length_append, List.length_append]; omega, fun zs pL q1 q2 q3 nL => ?_⟩
      obtain ⟨zL, hL⟩ := nw (o := .lst (zs.map V.str)) nL
      have x03 := ((x1.trans x2).trans x3).trans zS
      refine q _ pL zs (x03.f _ nL) (x03.trans zL) hL q2 fun z => (q3 z).trans ?_
      rw [List.mem_append, List.mem_append, s3 z]
      unfold InB
      rw [or_assoc]
abbrev s_others_of : Stmt := topS 29
abbrev n_others_of : List Str := ["one", "box"]
theorem sc_others_of : FnScope n_others_of ["one"] (defScope s_others_of) := ⟨rfl, rfl, rfl, by decide +kernel, rfl, by decide +kernel, by decide +kernel⟩
/-- whether the def has a box that is none of its results -/
def Oth (x : DfX) : Prop := ∃ z, InB x z ∧ z ∉ x.ys
def spOthers (K : PySem.W.Frag) : Sp := fun vs H Q _ => ∃ (o : Addr) (x : DfX) (D : Dm), vs = [.ref o] ∧ DfV K H o x ∧ DfO D x ∧
  ∀ H' p (zs : List Str), H p = none → Ex [] H H' → H' p = some (.lst (zs.map V.str)) → zs.length ≤ 6 → (∀ z ∈ zs, InB x z) → (zs ≠ [] ↔ Oth x) → Q (.ref p) H'
theorem ok_others {f f1 : Addr} {fd d1 : FuncData} {k : Nat} (F : Fun K "others_of" "others_of" s_others_of f fd) (C_boxes_of_def : Cl P w K mg base k "boxes_of_def" ["one"] (spBxDef K) f1 d1) :
    FnOk P w K mg base CX0 (k + 1) f fd ["one"] (spOthers K) := by
  refine F.ok sc_others_of (fun vs H Q E h => ?_) (fun cdv A outer s H vs Q E hr h => ?_)
  · obtain ⟨o, x, D, rfl, _⟩ := h; rfl
  · obtain ⟨o, x, D, rfl, hV, hD, q⟩ := h
    refine ⟨_, (pss_one (ps_ret (pe_lc (own := [("box", 1)]) (g := gName 1) rfl sc_others_of.nd (pi_list (pe_call C_boxes_of_def.g hr (by rfl) C_boxes_of_def.m C_boxes_of_def.k C_boxes_of_def.b .nil pass0 (pa_cons (pv 0) pa_nil))) (blkOk_by (N := n_others_of) (sc := defScope s_others_of) (by decide +kernel)) (fun _ _ _ _ _ => pg_name (i := 1) sc_others_of.nd rfl (Or.inl rfl)) (fun _ _ _ _ _ => pts_one (pt_cmpR (op_notInK (K := K) rfl) (pv 1) (pe_ix (ix_tupK (K := K) rfl) (pv 0) pe_int (fun _ _ => rfl)) rfl)) (fun _ _ _ _ _ => (pv 1))))), ?_⟩
    refine ⟨.ref o, rfl, o, x, D, rfl, hV, hD, fun H1 p ys np x1 hp nd hm => ?_⟩
    have l6 := hD.len nd hm
    refine ⟨p, rfl, ⟨_, .of hp⟩, fun L nL => ?_⟩
    obtain ⟨y0, hL⟩ := nw (o := .lst []) nL
    have hp0 := y0.lst hp
    have pL : p ≠ L := ne_of_none hp nL
    obtain ⟨a, b, r, h1, h2, h3, h4⟩ := (hV.ex x1).ex y0
    refine lc_list (a := p) (xs := ys.map V.str) (fun i H2 => H2 L = some (.lst (((ys.take i).filter fun z => decide (z ∉ x.ys)).map V.str)) ∧ Ex [L] (upd H1 L (.lst [])) H2) ⟨hL, .refl⟩ (fun i H2 _ h2 => .of (h2.2.lst hp0 (by simpa using pL))) (fun i xv H2 hx h => ?_) (fun H2 h => ?_)
    · obtain ⟨k1, x2⟩ := h
      rw [List.getElem?_map] at hx
      cases hb : ys[i]? with
      | none => rw [hb] at hx; cases hx
      | some z =>
        rw [hb] at hx
        cases hx
        have hi : i < ys.length := (List.getElem?_eq_some_iff.mp hb).1
        refine ⟨rfl, ?_⟩
        have et : (ys.take (i + 1)).filter (fun z => decide (z ∉ x.ys)) = (ys.take i).filter (fun z => decide (z ∉ x.ys)) ++ (if decide (z ∉ x.ys) = true then [z] else []) := by
          rw [List.take_add_one, hb, List.filter_append, show (some z).toList = [z] from rfl, List.filter_cons, List.filter_nil]
        refine ⟨.str z, rfl, .ref o, rfl, o, _, 2, .ref b, rfl, rfl, x2.seqT h1, rfl, b, x.ys.map V.str, rfl, .inr (x2.seqT h3), rfl, ?_, _, rfl, ?_⟩
        · rw [List.all_map]; exact List.all_eq_true.mpr fun _ _ => rfl
        · have ei : (!inV (.str z) (x.ys.map V.str)) = decide (z ∉ x.ys) := by
            rw [inV_strs]; simp
          rw [show (if true = true then !inV (V.str z) (List.map V.str x.ys) else inV (V.str z) (List.map V.str x.ys)) = decide (z ∉ x.ys) from ei]
          by_cases e : z ∉ x.ys
          · rw [decide_eq_true e] at et ⊢
            refine iteT ?_
            have lt : ((ys.take i).filter fun z => decide (z ∉ x.ys)).length ≤ 6 := Nat.le_trans (List.length_filter_le _ _) (by rw [List.length_take]; omega)
            refine ⟨.str z, rfl, _, k1, by rw [List.length_map]; exact Nat.lt_of_le_of_lt lt (by decide), ?_⟩
            obtain ⟨z5, h5⟩ := pw (o := .lst (((ys.take i).filter fun z => decide (z ∉ x.ys)).map V.str ++ [.str z])) k1
            exact ⟨by rw [h5, et, List.map_append]; rfl, x2.trans z5⟩
          · rw [decide_eq_false e] at et ⊢
            refine iteF ?_
            exact ⟨by rw [k1, et]; simp, x2⟩
    · obtain ⟨k1, x2⟩ := h
      rw [List.length_map, List.take_length] at k1
      refine q H2 L _ (x1.f _ nL) (Ex.own (x1.f _ nL) (x1.trans y0) x2) k1 (Nat.le_trans (List.length_filter_le _ _) l6) (fun z hz => (hm z).mp (List.mem_filter.mp hz).1) ⟨fun ne => ?_, fun ⟨z, hz1, hz2⟩ e => ?_⟩
      · obtain ⟨z, hz⟩ := List.exists_mem_of_ne_nil _ ne
        obtain ⟨m1, m2⟩ := List.mem_filter.mp hz
        exact ⟨z, (hm z).mp m1, of_decide_eq_true m2⟩
      · have : z ∈ ys.filter (fun z => decide (z ∉ x.ys)) := List.mem_filter.mpr ⟨(hm z).mpr hz1, decide_eq_true hz2⟩
        rw [e] at this; cases this
end
end K41

set_option maxHeartbeats 8000000
namespace K41
open PySem PySem.Spec PyProof.Rows L2 Kk RZ
theorem add_empty (a : Str) : a ++ Str.empty = a := by
  obtain ⟨c⟩ := a
  show Str.mk (c ++ #[]) = Str.mk c
  rw [Array.append_empty]
theorem mem_putK2 {kvs : List (Key × V)} {k : Key} {v : V} {p : Key × V} (h : p ∈ putK kvs k v) : (∃ p' ∈ kvs, p'.2 = p.2) ∨ p.2 = v := by
  unfold putK at h
  split at h
  · obtain ⟨kv, hk, e⟩ := List.mem_map.mp h
    by_cases c : kv.1 = k
    · rw [if_pos c] at e
      exact .inr (by rw [← e])
    · rw [if_neg c] at e
      exact .inl ⟨kv, hk, by rw [e]⟩
  · rcases List.mem_append.mp h with m | m
    · exact .inl ⟨p, m, rfl⟩
    · rw [List.mem_singleton.mp m]; exact .inr rfl
def phiOf (kvs : List (Key × V)) (b : Str) : Str := match valV kvs (.inr b) with | some (.str z) => z | _ => b
theorem phi_eq {kvs : List (Key × V)} {b z : Str} (e : valV kvs (.inr b) = some (.str z)) : phiOf kvs b = z := by unfold phiOf; rw [e]
theorem call_setSW {X : Cx} {K : PySem.W.Frag} {w : World} (hK : X.K = K) (hw : X.w = w) (hc : X.calm = true) : CallR X (.type "set") (rSetS K w) := by subst hK; subst hw; exact call_setS hc
theorem call_sortSetSW {X : Cx} {w : World} (hw : X.w = w) (hc : X.calm = true) : CallR X (.builtin "sorted") (rSortSetS w) := by subst hw; exact call_sortSetS hc
/-! boxes by fresh names -/
def Nd (H : Hp) (a : Addr) (φ : Str → Str) (B : List Str) : Prop := ∃ kvs : List (Key × V), H a = some (.dK kvs) ∧ ∀ b ∈ B, valV kvs (.inr b) = some (.str (φ b)) ∧ (φ b).length ≤ 20
theorem Nd.ex {H H' : Hp} {a : Addr} {φ : Str → Str} {B : List Str} {xs : List Addr} (h : Nd H a φ B) (e : Ex xs H H') (n : a ∉ xs) : Nd H' a φ B := by
  obtain ⟨kvs, h1, h2⟩ := h
  exact ⟨kvs, e.a a _ n h1 (fun _ z => by cases z), h2⟩
theorem Nd.nil {H H' : Hp} {a : Addr} {φ : Str → Str} {B : List Str} (h : Nd H a φ B) (e : Ex [] H H') : Nd H' a φ B := h.ex e (by simp)
section
variable {P : Program} {w : World} {K : PySem.W.Frag} {mg : Str → Option Value} {base : Heap}
abbrev s_fresh_box : Stmt := topS 31
abbrev n_fresh_box : List Str := ["box", "names", "name", "dot", "rest"]
theorem sc_fresh_box : FnScope n_fresh_box ["box", "names"] (defScope s_fresh_box) := ⟨rfl, rfl, rfl, by decide +kernel, rfl, by decide +kernel, by decide +kernel⟩
def spFBox : Sp := fun vs H Q _ => ∃ (b : Str) (a : Addr) (φ : Str → Str) (B : List Str), vs = [.str b, .ref a] ∧ Nd H a φ B ∧ b ∈ B ∧ Qs b ∧ ∀ H', Ex [] H H' → Q (.str (φ b)) H'
theorem ok_fresh_box {f : Addr} {fd : FuncData} {k : Nat} (F : Fun K "fresh_box" "fresh_box" s_fresh_box f fd) : FnOk P w K mg base CX0 (k + 1) f fd ["box", "names"] spFBox := by
  refine F.ok sc_fresh_box (fun vs H Q E h => ?_) (fun cdv A outer s H vs Q E hr h => ?_)
  · obtain ⟨b, a, φ, B, rfl, _⟩ := h; rfl
  · obtain ⟨b, a, φ, B, rfl, hN, hb, hq, q⟩ := h
    refine ⟨_, (pss_cons (ps_asg (pe_partition (pv 0) pe_str) (pg_tup rfl (pgs_cons (pg_name (i := 2) sc_fresh_box.nd rfl (.inl rfl)) (pgs_cons (pg_name (i := 3) sc_fresh_box.nd rfl (.inl rfl)) (pgs_cons (pg_name (i := 4) sc_fresh_box.nd rfl (.inl rfl)) pgs_nil)))))
      (pss_one (ps_ret (pe_op op_add_str (pe_op op_add_str (pe_dget (un1 hr) (pv 1) (pv 2) (fun _ _ => rfl)) (pv 3)) (pv 4))))), ?_⟩
    have ep : Txt.partition b (Str.ofString ".") = (b, Str.empty, Str.empty) := TL.partition_none dot_tl hq.2.1
    have lb : b.length ≤ sizeLine := Nat.le_trans hq.2.2 (by decide)
    refine ⟨.str b, rfl, ⟨_, rfl⟩, b, Str.ofString ".", rfl, rfl, by decide +kernel, lb, fun t nt => ?_⟩
    rw [ep]
    obtain ⟨xt, ht⟩ := nw (o := .tup [V.str b, .str Str.empty, .str Str.empty]) nt
    obtain ⟨kvs, h1, h2⟩ := hN.nil xt
    obtain ⟨v1, v2⟩ := h2 b hb
    refine ⟨t, _, rfl, .of ht, rfl, _, _, rfl, _, _, rfl, _, _, rfl, rfl, ?_⟩
    refine ⟨.ref a, rfl, .str b, rfl, a, .str (φ b), rfl, ?_, .str Str.empty, rfl, _, _, rfl, rfl, ?_, .str Str.empty, rfl, _, _, rfl, rfl, ?_, ?_⟩
    · have := DGet.k (k := .inr b) h1
      rw [v1] at this; exact this
    · exact Nat.le_trans (show (φ b).length + 0 ≤ 20 by omega) (by decide)
    · rw [add_empty]; exact Nat.le_trans (show (φ b).length + 0 ≤ 20 by omega) (by decide)
    · rw [add_empty, add_empty]; exact q _ xt
abbrev s_fresh_names : Stmt := topS 30
abbrev n_fresh_names : List Str := ["one", "fresh", "cleared", "begun", "inner", "word", "box", "name"]
theorem sc_fresh_names : FnScope n_fresh_names ["one", "fresh"] (defScope s_fresh_names) := ⟨rfl, rfl, rfl, by decide +kernel, rfl, by decide +kernel, by decide +kernel⟩
theorem no_clear {D : Dm} {m l : Nat} {d : PyData} (nr : D.recs = []) (h : Wd D m l d) : ∃ k ps, d = .tuple (.str k :: ps) ∧ k ≠ ("clear" : Str) := by
  cases h with
  | clear a => rw [nr] at a; cases a
  | _ => exact ⟨_, _, rfl, by decide +kernel⟩
def spFNames (K : PySem.W.Frag) (CF T : Addr) : Sp := fun vs H Q _ => ∃ (o fr tk : Addr) (g : Nat) (x : DfX) (D : Dm), vs = [.ref o, .ref fr] ∧ GxR.TabG H T ∧ FrH CF H fr tk g ∧ g + 6 ≤ 2000 ∧ DfV K H o x ∧ DfO D x ∧
  ∀ H' a φ B g', Ex [fr] H H' → H a = none → Nd H' a φ B → (∀ z, InB x z → z ∈ B) → FrH CF H' fr tk g' → g' ≤ g + 6 → Q (.ref a) H'
theorem ok_fresh_names {f f1 f2 f3 CF T : Addr} {fd d1 d2 d3 : FuncData} {k : Nat} (F : Fun K "fresh_names" "fresh_names" s_fresh_names f fd) (CA : Cl P w K mg base k "all_rows" ["row"] (spAllRows K) f1 d1) (C_boxes_of_def : Cl P w K mg base k "boxes_of_def" ["one"] (spBxDef K) f2 d2)
    (TF : TFr K mg CF) (iN : Meth K CF "next_name" f3) (gN : FnOk P w K mg base CX0 k f3 d3 ["self"] (spNext CF T)) (bN : Binds K d3 ["self"] []) (m_set : mg "set" = none) (m_sorted : mg "sorted" = none) :
    FnOk P w K mg base CX0 (k + 1) f fd ["one", "fresh"] (spFNames K CF T) := by
  refine F.ok sc_fresh_names (fun vs H Q E h => ?_) (fun cdv A outer s H vs Q E hr h => ?_)
  · obtain ⟨o, fr, tk, g, x, D, rfl, _⟩ := h; rfl
  · obtain ⟨o, fr, tk, g, x, D, rfl, hT, hF, hg, hV, hD, q⟩ := h
    refine ⟨_, (pss_cons (ps_setLc2 (i := 2) (own := [("inner", 4), ("word", 5)]) (vs1 := [5]) (g := gName 4) (g1 := gName 5) (tt := tYes) rfl sc_fresh_names.nd rfl rfl (sw_true rfl rfl rfl (by decide +kernel)) (pi_list (pe_call CA.g hr (by rfl) CA.m CA.k CA.b .nil pass0 (pa_cons (pe_ix ix_tup (pv 0) pe_int (fun _ _ => rfl)) pa_nil))) (blkOk_by (N := n_fresh_names) (sc := defScope s_fresh_names) (by decide +kernel)) (by decide)
        (fun _ _ _ _ _ => pg_name (i := 4) sc_fresh_names.nd rfl (Or.inl rfl)) (fun _ _ _ _ _ => pts_nil) (fun _ _ _ _ _ => pi_tupK (K := K) rfl (pv 4)) (fun _ _ _ _ _ => pg_name (i := 5) sc_fresh_names.nd rfl (Or.inl rfl)) (fun _ _ _ _ _ => pts_one (pt_cmpR op_eq (pe_ix (ix_tupK (K := K) rfl) (pv 5) pe_int (fun _ _ => rfl)) pe_str (nomark _))) (fun _ _ _ _ _ => pe_ix (ix_tupK (K := K) rfl) (pv 5) pe_int (fun _ _ => rfl)))
      (pss_cons (ps_setLc (i := 3) (own := [("box", 6)]) (g := gName 6) (tt := tYes) rfl sc_fresh_names.nd rfl rfl (sw_true rfl rfl rfl (by decide +kernel)) (pi_list (pe_call C_boxes_of_def.g hr (by rfl) C_boxes_of_def.m C_boxes_of_def.k C_boxes_of_def.b .nil pass0 (pa_cons (pv 0) pa_nil))) (blkOk_by (N := n_fresh_names) (sc := defScope s_fresh_names) (by decide +kernel)) (fun _ _ _ _ _ => pg_name (i := 6) sc_fresh_names.nd rfl (Or.inl rfl)) (fun _ _ _ _ _ => pts_nil) (fun _ _ _ _ _ => pe_ix (ix_listK (K := K) rfl) (pe_split (pv 6) pe_str) pe_int (fun _ _ => rfl)))
      (pss_one (ps_ret (pe_dc (own := [("name", 7)]) (g := gName 7) (tt := tYes) rfl sc_fresh_names.nd (pi_list (pe_callB (call_sortSetSW (w := w) rfl rfl) (by rfl) m_sorted (by decide +kernel) (pa_cons (pe_callTy (call_setSW (K := K) (w := w) rfl rfl rfl) (by rfl) m_set (by decide +kernel) (pa_cons (pe_op op_cat (pv 2) (pv 3)) pa_nil)) pa_nil))) (blkOk_by (N := n_fresh_names) (sc := defScope s_fresh_names) (by decide +kernel))
        (fun _ _ _ _ _ => pg_name (i := 7) sc_fresh_names.nd rfl (Or.inl rfl)) (fun _ _ _ _ _ => pts_nil) (fun _ _ _ _ _ => pv 7) (fun _ _ _ _ _ => pe_meth0 (pv 1) TF.cl iN gN hr bN .nil pass0)))))), ?_⟩
    have sml : ∀ n : Nat, n ≤ 1000 → n < sizeLine := fun n h => Nat.lt_of_le_of_lt h (by decide)
    obtain ⟨a, b, r, h1, h2, h3, h4⟩ := id hV
    refine ⟨.ref o, rfl, o, _, 3, _, rfl, rfl, h1, rfl, r, _, D, 1, 9, rfl, h4, hD.rw_, Nat.le_refl _, fun H1 p us fs np x1 hp tF pf => ⟨p, rfl, ⟨us, .of hp⟩, fun L nL => ?_⟩⟩
    obtain ⟨y0, hL⟩ := nw (o := .lst []) nL
    have pL : p ≠ L := ne_of_none hp nL
    have hp0 := y0.lst hp
    have tF0 := tF.ex y0
    have x10 := x1.trans y0
    have nL0 := x1.f _ nL
    generalize upd H1 L (.lst []) = H10 at y0 hL hp0 tF0 x10
    refine lv_list (a := p) (xs := us) (fun i H2 => H2 L = some (.lst []) ∧ Ex [L] H10 H2) ⟨hL, .refl⟩ (fun i H2 _ z => .of (z.2.lst hp0 (by simpa using pL))) (fun i xv H2 hx z => ?_) (fun H2 z => ?_)
    · obtain ⟨k1, x2⟩ := z
      obtain ⟨d, hd, td⟩ := tF0.get hx
      obtain ⟨m', l', _, ws, rfl, c12, hw⟩ := all_rw 1 320 9 _ (by decide) hD.rw_ d (pf.mem_iff.mp (List.mem_of_getElem? hd))
      refine ⟨rfl, tyes_if ?_⟩
      cases td with
      | tup hs ha =>
        rename_i a2 us2
        refine ⟨.ref a2, rfl, a2, rfl, ⟨us2, x2.seqT hs⟩, lv_tup (a := a2) (xs := us2) (fun j H3 => H3 L = some (.lst []) ∧ Ex [L] H10 H3) ⟨k1, x2⟩ (fun j H3 _ z => z.2.seqT hs) (fun j x3 H3 hx3 z => ?_) (fun H3 z => z)⟩
        obtain ⟨k3, x3'⟩ := z
        obtain ⟨wd, hwd, tw⟩ := ha.get hx3
        obtain ⟨k0, ps, rfl, nc⟩ := no_clear hD.nr (hw wd (List.mem_of_getElem? hwd))
        refine ⟨rfl, ?_⟩
        cases tw with
        | tup hs3 ha3 =>
          cases ha3 with
          | cons a1 a2' =>
            cases a1
            refine ⟨_, rfl, _, _, 0, _, rfl, rfl, x3'.seqT hs3, atN (j := 0) rfl, rfl, _, rfl, itN (fun e => nc (V.str.inj e)) ?_⟩
            exact ⟨k3, x3'⟩
    · obtain ⟨k1, x2⟩ := z
      have x02 : Ex [] H H2 := Ex.own nL0 x10 x2
      refine ⟨.ref o, rfl, o, x, D, rfl, hV.ex x02, hD, fun H3 p2 ys np2 x3 hp2 nd hm => ?_⟩
      have l6 := hD.len nd hm
      have hL3 := x3.lst k1
      refine ⟨p2, rfl, ⟨_, .of hp2⟩, fun L2 nL2 => ?_⟩
      have qs : ∀ z ∈ ys, Qs z := fun z hz => hD.dq.b z (hD.inb ((hm z).mp hz))
      refine lc_data (K := K) (walk_list (K := K) (a := p2) (xs := ys.map V.str)) (ds := ys.map PyData.str) (xs := []) (fun _ _ => True) nL2 (by simp) (by simp) (by rw [List.length_map]; exact sml _ (by omega)) (fun i H4 x4 _ => .of (x4.lst hp2)) (fun _ _ => trivial) (fun _ _ _ _ _ _ _ => trivial)
        (fun i d xv H4 H4' R N hd x4 _ hy hR => ?_) (fun H4 acc x4 hL4 tA _ => ?_)
      · obtain ⟨e1, e2⟩ := hy
        subst e1
        rw [List.getElem?_map] at hd e2
        cases hb : ys[i]? with
        | none => rw [hb] at hd; cases hd
        | some z =>
          rw [hb] at hd e2
          cases hd
          cases e2
          have qz := qs z (List.mem_of_getElem? hb)
          refine ⟨rfl, tyes_if ?_⟩
          refine ⟨.str z, rfl, ⟨_, rfl⟩, z, Str.ofString ".", rfl, rfl, by decide +kernel, Nat.le_of_lt (sml _ (by have := qz.2.2; omega)), fun pS nS => ?_⟩
          have es : Txt.split z (Str.ofString ".") = [z] := split_none qz.2.1
          obtain ⟨yS, hS⟩ := nw (o := .lst ((Txt.split z (Str.ofString ".")).map V.str)) nS
          have hS' : (upd H4' pS (.lst ((Txt.split z (Str.ofString ".")).map V.str))) pS = some (.lst [V.str z]) := by rw [hS, es]; rfl
          exact ⟨pS, [V.str z], 0, .str z, rfl, rfl, .of hS', rfl, hR _ _ yS (.str z) trivial⟩
      · have ea := strs_of tA
        subst ea
        have hL4' := x4.lst hL3
        refine ⟨.ref L, rfl, .ref L2, rfl, L, L2, _, _, rfl, rfl, hL4', hL4, by rw [List.length_map]; exact Nat.le_of_lt (sml _ (by simp; omega)), fun G nG => ?_⟩
        obtain ⟨yG, hG⟩ := nw (o := .lst ([] ++ ys.map V.str)) nG
        rw [List.nil_append] at hG yG
        simp only [List.nil_append]
        refine ⟨G, ys, ys, rfl, .of hG, fun _ z => z, by omega, fun S nS => ?_⟩
        have zS : Ex [] _ (upd (upd H4 G (.lst (ys.map V.str))) S (SetS w S ys)) := .new nS
        refine ⟨S, ys, ys, rfl, upd_same, fun _ z => z, by omega, fun zs pL3 q1 q2 q3 nL3 => ?_⟩
        obtain ⟨zL, hL5⟩ := nw (o := .lst (zs.map V.str)) nL3
        have lz : zs.length ≤ 6 := hD.len q2 fun z => (q3 z).trans (hm z)
        have x05 : Ex [] H _ := ((((x02.trans x3).trans x4).trans yG).trans zS).trans zL
        generalize upd (upd (upd H4 G (.lst (ys.map V.str))) S (SetS w S ys)) pL3 (.lst (zs.map V.str)) = H5 at zL hL5 x05 ⊢
        refine ⟨pL3, rfl, ⟨_, .of hL5⟩, fun Dd nD => ?_⟩
        obtain ⟨yD, hD0⟩ := nw (o := .dK []) nD
        have hF5 := hF.nil x05
        obtain ⟨nfr, ntk⟩ := hF5.ne nD
        have hF6 := hF5.nil yD
        have hL6 := yD.lst hL5
        have p3D : pL3 ≠ Dd := ne_of_none hL5 nD
        have p3f : pL3 ≠ fr := fun z => by
          obtain ⟨dx, fs', kvs', e1, _⟩ := hF5
          rw [z, e1] at hL5; cases hL5
        have x06 := x05.trans yD
        have hT6 := x06.t _ hT
        have nD0 := x05.f _ nD
        generalize upd H5 Dd (.dK []) = H6 at yD hD0 hF6 hL6 x06 hT6
        refine lv_list (a := pL3) (xs := zs.map V.str) (fun i H7 => ∃ (kvs : List (Key × V)) (g' : Nat), H7 Dd = some (.dK kvs) ∧ (∀ p ∈ kvs, ∃ z : Str, p.2 = .str z ∧ z.length ≤ 20) ∧ (∀ b ∈ zs.take i, (valV kvs (.inr b)).isSome = true) ∧ kvs.length ≤ i ∧ FrH CF H7 fr tk g' ∧ g' ≤ g + i ∧ i ≤ 6 ∧ Ex [Dd, fr] H6 H7)
          ⟨[], g, hD0, by simp, by simp, by simp, hF6, by omega, by omega, .refl⟩ (fun i H7 _ ⟨_, _, _, _, _, _, _, _, _, x7⟩ => .of (x7.lst hL6 (by simp [p3D, p3f]))) (fun i xv H7 hx ⟨kvs, g', k1, k2, k3, k4, hF7, k5, k6, x7⟩ => ?_) (fun H7 ⟨kvs, g', k1, k2, k3, k4, hF7, k5, k6, x7⟩ => ?_)
        · rw [List.getElem?_map] at hx
          cases hb : zs[i]? with
          | none => rw [hb] at hx; cases hx
          | some z =>
            rw [hb] at hx
            cases hx
            have hi : i < zs.length := (List.getElem?_eq_some_iff.mp hb).1
            refine ⟨rfl, tyes_if ?_⟩
            obtain ⟨dx, fs', kvs', e1, e2, e3, e4, e5⟩ := id hF7
            refine ⟨.str z, rfl, .ref fr, rfl, fr, dx, fs', rfl, e1, e4, fr, tk, g', rfl, x7.t _ hT6, hF7, by omega, fun H8 x8 hF8 => ?_⟩
            have k18 := x8.a Dd _ (by simpa using nfr.symm) k1 (fun _ z => by cases z)
            refine ⟨kvs, .inr z, rfl, k18, sml _ (by omega), ?_⟩
            have xp : Ex [Dd] H8 (upd H8 Dd (.dK (putK kvs (.inr z) (.str (nmT g'))))) := .put k18 nt_dK (by simp)
            have n4 := (nm_ok g' (by omega)).2.2
            refine ⟨_, g' + 1, upd_same, fun p hp => ?_, fun b hb' => ?_, ?_, hF8.ex xp (by simpa using nfr) (by simpa using ntk), by omega, by omega, (x7.trans (x8.mono fun b hb => by simp at hb; simp [hb])).trans (xp.mono fun b hb => by simp at hb; simp [hb])⟩
            · rcases mem_putK2 hp with m | e
              · exact m.elim (fun p' q => by obtain ⟨z', a1, a2⟩ := k2 p' q.1; exact ⟨z', by rw [← q.2]; exact a1, a2⟩)
              · exact ⟨nmT g', e, by omega⟩
            · rw [valV_put]
              split
              · rfl
              · rename_i ne
                rw [List.take_add_one, hb] at hb'
                rcases List.mem_append.mp hb' with m | m
                · exact k3 b m
                · exact absurd (by rw [List.mem_singleton.mp m]) ne
            · have := length_putK kvs (.inr z) (.str (nmT g')); omega
        · rw [List.length_map, List.take_length] at k3
          have hv : ∀ b ∈ zs, ∃ z : Str, valV kvs (.inr b) = some (.str z) ∧ z.length ≤ 20 := fun b hb => by
            have := k3 b hb
            unfold valV at this ⊢
            cases ef : kvs.find? (fun kv => decide (kv.1 = (Sum.inr b : Key))) with
            | none => rw [ef] at this; cases this
            | some p =>
              obtain ⟨z, e1, e2⟩ := k2 p (List.mem_of_find?_eq_some ef)
              exact ⟨z, by rw [Option.map_some, e1], e2⟩
          refine q H7 Dd (phiOf kvs) zs g' ?_ nD0 ⟨kvs, k1, fun b hb => ?_⟩ (fun z hz => (q3 z).mpr ((hm z).mpr hz)) hF7 (by omega)
          · exact Ex.own nD0 (x06.nil) x7
          · obtain ⟨z, e1, e2⟩ := hv b hb
            rw [phi_eq e1]; exact ⟨e1, e2⟩
end
end K41

set_option maxHeartbeats 8000000
namespace K41
open PySem PySem.Spec PyProof.Rows L2 Kk RZ
/-! words by fresh names, sizes -/
def Pw.bx : Pw → List Str
  | .tell b => [b]
  | .wipe b => [b]
  | .copy a b => [a, b]
  | .drop bs => bs
  | .call _ xs ys => xs ++ ys
  | _ => []
def fP (φ : Str → Str) : Pw → Pw
  | .tell b => .tell (φ b)
  | .wipe b => .wipe (φ b)
  | .copy a b => .copy (φ a) (φ b)
  | .drop bs => .drop (bs.map φ)
  | .out n => .out n
  | .back => .back
  | .call a xs ys => .call a (xs.map φ) (ys.map φ)
def fP1 (φ : Str → Str) (E : List Pw) (l : Nat) : Pw → List Pw
  | .back => E ++ [Pw.out l]
  | w => [fP φ w]
theorem fP1_ne {φ : Str → Str} {E : List Pw} {l : Nat} {w : Pw} (h : w ≠ .back) : fP1 φ E l w = [fP φ w] := by cases w <;> first | rfl | exact absurd rfl h
def fR1 (φ : Str → Str) (E : List Pw) (l : Nat) (r : List Pw) : List Pw := r.flatMap (fP1 φ E l)
def fW (φ : Str → Str) (E : List Pw) (l : Nat) : Wo → List Wo
  | .p w => (fP1 φ E l w).map Wo.p
  | .r ch rs => [.r ch (rs.map (fR1 φ E (if ch then l else l + 1)))]
def fR (φ : Str → Str) (E : List Pw) (l : Nat) (ws : List Wo) : List Wo := ws.flatMap (fW φ E l)
theorem fR_plain (φ : Str → Str) (E : List Pw) (l : Nat) : ∀ r : List Pw, fR φ E l (r.map Wo.p) = (fR1 φ E l r).map Wo.p
  | [] => rfl
  | w :: r => by
    show fW φ E l (.p w) ++ fR φ E l (r.map Wo.p) = _
    rw [fR_plain φ E l r]
    show (fP1 φ E l w).map Wo.p ++ (fR1 φ E l r).map Wo.p = (fP1 φ E l w ++ fR1 φ E l r).map Wo.p
    rw [List.map_append]
def szP (sz : Str → Nat) (b : Nat) : Pw → Nat
  | .call a _ _ => sz a
  | .back => b
  | _ => 1
def szQ (sz : Str → Nat) (b : Nat) (r : List Pw) : Nat := (r.map (szP sz b)).sum
def szW (sz : Str → Nat) (b : Nat) : Wo → Nat
  | .p w => szP sz b w
  | .r _ rs => 1 + (rs.map (szQ sz b)).sum
def szR (sz : Str → Nat) (b : Nat) (ws : List Wo) : Nat := (ws.map (szW sz b)).sum
theorem szR_app (sz : Str → Nat) (b : Nat) (x y : List Wo) : szR sz b (x ++ y) = szR sz b x + szR sz b y := by unfold szR; rw [List.map_append, List.sum_append]
theorem szR_cons (sz : Str → Nat) (b : Nat) (x : Wo) (y : List Wo) : szR sz b (x :: y) = szW sz b x + szR sz b y := by unfold szR; rw [List.map_cons, List.sum_cons]
theorem szQ_app (sz : Str → Nat) (b : Nat) (x y : List Pw) : szQ sz b (x ++ y) = szQ sz b x + szQ sz b y := by unfold szQ; rw [List.map_append, List.sum_append]
/-- a word that is neither call nor back -/
def Sim : Pw → Prop
  | .call _ _ _ => False
  | .back => False
  | _ => True
theorem szP_sim {sz : Str → Nat} {b : Nat} {w : Pw} (h : Sim w) : szP sz b w = 1 := by cases w <;> first | rfl | exact h.elim
theorem szQ_sim {sz : Str → Nat} {b : Nat} : ∀ {r : List Pw}, (∀ w ∈ r, Sim w) → szQ sz b r = r.length
  | [], _ => rfl
  | w :: r, h => by
    have e : szQ sz b (w :: r) = szP sz b w + szQ sz b r := by unfold szQ; rw [List.map_cons, List.sum_cons]
    rw [e, szP_sim (h w List.mem_cons_self), szQ_sim fun w hw => h w (List.mem_cons_of_mem _ hw), List.length_cons]; omega
theorem szR_p (sz : Str → Nat) (b : Nat) (r : List Pw) : szR sz b (r.map Wo.p) = szQ sz b r := by
  unfold szR szQ
  rw [List.map_map]; rfl
theorem szP_f {sz : Str → Nat} {φ : Str → Str} {w : Pw} (h : w ≠ .back) (b c : Nat) : szP sz b (fP φ w) = szP sz c w := by cases w <;> first | rfl | exact absurd rfl h
theorem szQ_f {sz : Str → Nat} {φ : Str → Str} {E : List Pw} (hE : ∀ w ∈ E, Sim w) (l : Nat) : ∀ r : List Pw, szQ sz 1 (fR1 φ E l r) = szQ sz (E.length + 1) r
  | [] => rfl
  | w :: r => by
    have e : fR1 φ E l (w :: r) = fP1 φ E l w ++ fR1 φ E l r := rfl
    have e2 : szQ sz (E.length + 1) (w :: r) = szP sz (E.length + 1) w + szQ sz (E.length + 1) r := by unfold szQ; rw [List.map_cons, List.sum_cons]
    rw [e, szQ_app, szQ_f hE l r, e2]
    congr 1
    by_cases h : w = .back
    · subst h
      show szQ sz 1 (E ++ [Pw.out l]) = E.length + 1
      rw [szQ_app, szQ_sim hE]; rfl
    · rw [fP1_ne h]
      show szP sz 1 (fP φ w) + 0 = _
      rw [Nat.add_zero, szP_f h 1 (E.length + 1)]
theorem szR_f {sz : Str → Nat} {φ : Str → Str} {E : List Pw} (hE : ∀ w ∈ E, Sim w) (l : Nat) : ∀ ws : List Wo, szR sz 1 (fR φ E l ws) = szR sz (E.length + 1) ws
  | [] => rfl
  | w :: ws => by
    show szR sz 1 (fW φ E l w ++ fR φ E l ws) = _
    rw [szR_app, szR_f hE l ws, szR_cons]
    congr 1
    cases w with
    | p w =>
      by_cases h : w = .back
      · subst h
        show szR sz 1 ((E ++ [Pw.out l]).map Wo.p) = _
        rw [szR_p, szQ_app, szQ_sim hE]; rfl
      · have : fW φ E l (.p w) = [.p (fP φ w)] := by show (fP1 φ E l w).map Wo.p = _; rw [fP1_ne h]; rfl
        rw [this]
        show szP sz 1 (fP φ w) + 0 = szP sz (E.length + 1) w
        rw [Nat.add_zero, szP_f h 1 (E.length + 1)]
    | r ch rs =>
      show 1 + ((rs.map (fR1 φ E (if ch then l else l + 1))).map (szQ sz 1)).sum + 0 = 1 + (rs.map (szQ sz (E.length + 1))).sum
      rw [List.map_map, Nat.add_zero]
      congr 2
      refine List.map_congr_left fun r _ => ?_
      exact szQ_f hE _ r
/-! defs -/
structure TD where
  a : Str
  xs : List Str
  ys : List Str
  ws : List Wo
def TD.x (t : TD) : DfX := ⟨t.a, t.xs, t.ys, t.ws.map Wo.d⟩
open Classical in
noncomputable def bk (x : DfX) : Nat := 2 * x.ys.length + (if Oth x then 1 else 0) + 1
def CallOk (T : List TD) (n : Nat) : Pw → Prop
  | .call a xs ys => ∃ i t, i < n ∧ T[i]? = some t ∧ t.a = a ∧ xs.length = t.xs.length ∧ ys.length = t.ys.length ∧ (∀ z ∈ xs, z.length ≤ 20) ∧ ∀ z ∈ ys, z.length ≤ 20
  | _ => True
def CW (T : List TD) (n : Nat) : Wo → Prop
  | .p w => CallOk T n w
  | .r ch rs => rs ≠ [] ∧ rs.length ≤ 4 ∧ (ch = false → rs.length = 1) ∧ ∀ r ∈ rs, r.length ≤ 60 ∧ ∀ w ∈ r, CallOk T 0 w
theorem callOk_sim {T : List TD} {n : Nat} {w : Pw} (h : Sim w) : CallOk T n w := by cases w <;> first | exact True.intro | exact h.elim
theorem callOk_f {T : List TD} {n : Nat} {φ : Str → Str} {w : Pw} (h : CallOk T n w) (hφ : ∀ b ∈ w.bx, (φ b).length ≤ 20) : CallOk T n (fP φ w) := by
  cases w with
  | call a xs ys =>
    obtain ⟨i, t, h1, h2, h3, h4, h5, h6, h7⟩ := h
    refine ⟨i, t, h1, h2, h3, by rw [List.length_map]; exact h4, by rw [List.length_map]; exact h5, fun z hz => ?_, fun z hz => ?_⟩
    · obtain ⟨b, hb, rfl⟩ := List.mem_map.mp hz
      exact hφ b (List.mem_append_left _ hb)
    · obtain ⟨b, hb, rfl⟩ := List.mem_map.mp hz
      exact hφ b (List.mem_append_right _ hb)
  | _ => exact True.intro
def Wo.bx : Wo → List Str
  | .p w => w.bx
  | .r _ rs => rs.flatMap fun r => r.flatMap Pw.bx
theorem fR1_len {φ : Str → Str} {E : List Pw} {l : Nat} (hE : E.length ≤ 9) : ∀ r : List Pw, (fR1 φ E l r).length ≤ 10 * r.length
  | [] => by simp [fR1]
  | w :: r => by
    have e : fR1 φ E l (w :: r) = fP1 φ E l w ++ fR1 φ E l r := rfl
    have := fR1_len (φ := φ) (l := l) hE r
    rw [e, List.length_append, List.length_cons]
    have : (fP1 φ E l w).length ≤ 10 := by
      by_cases h : w = .back
      · subst h; show (E ++ [Pw.out l]).length ≤ 10; simp; omega
      · rw [fP1_ne h]; simp
    omega
theorem fR_len {φ : Str → Str} {E : List Pw} {l : Nat} (hE : E.length ≤ 9) : ∀ r : List Wo, (fR φ E l r).length ≤ 10 * r.length
  | [] => by simp [fR]
  | w :: r => by
    have e : fR φ E l (w :: r) = fW φ E l w ++ fR φ E l r := rfl
    have := fR_len (φ := φ) (l := l) hE r
    rw [e, List.length_append, List.length_cons]
    have : (fW φ E l w).length ≤ 10 := by
      cases w with
      | p w =>
        show ((fP1 φ E l w).map Wo.p).length ≤ 10
        rw [List.length_map]
        by_cases h : w = .back
        · subst h; show (E ++ [Pw.out l]).length ≤ 10; simp; omega
        · rw [fP1_ne h]; simp
      | r ch rs => simp [fW]
    omega
theorem mem_fR1 {φ : Str → Str} {E : List Pw} {l : Nat} {r : List Pw} {w : Pw} (h : w ∈ fR1 φ E l r) : w ∈ E ∨ w = .out l ∨ ∃ w' ∈ r, w = fP φ w' := by
  obtain ⟨w', h1, h2⟩ := List.mem_flatMap.mp h
  by_cases e : w' = .back
  · subst e
    rcases List.mem_append.mp h2 with m | m
    · exact .inl m
    · exact .inr (.inl (List.mem_singleton.mp m))
  · rw [fP1_ne e] at h2
    exact .inr (.inr ⟨w', h1, List.mem_singleton.mp h2⟩)
theorem cw_f {T : List TD} {n l : Nat} {φ : Str → Str} {E : List Pw} (hE : ∀ w ∈ E, Sim w) (hl : E.length ≤ 9) {ws : List Wo} (h : ∀ w ∈ ws, CW T n w) (h3 : ∀ w ∈ ws, ∀ ch rs, w = .r ch rs → ∀ r ∈ rs, r.length ≤ 3) (hφ : ∀ w ∈ ws, ∀ b ∈ w.bx, (φ b).length ≤ 20) : ∀ w ∈ fR φ E l ws, CW T n w := by
  intro w hw
  obtain ⟨w', h1, h2⟩ := List.mem_flatMap.mp hw
  have c := h w' h1
  have f := hφ w' h1
  cases w' with
  | p w' =>
    by_cases e : w' = .back
    · subst e
      obtain ⟨v, hv, rfl⟩ := List.mem_map.mp (show w ∈ (E ++ [Pw.out l]).map Wo.p from h2)
      rcases List.mem_append.mp hv with m | m
      · exact callOk_sim (hE v m)
      · rw [List.mem_singleton.mp m]; exact True.intro
    · have : fW φ E l (.p w') = [.p (fP φ w')] := by show (fP1 φ E l w').map Wo.p = _; rw [fP1_ne e]; rfl
      rw [this] at h2
      rw [List.mem_singleton.mp h2]
      exact callOk_f c f
  | r ch rs =>
    rw [List.mem_singleton.mp (show w ∈ [Wo.r ch (rs.map (fR1 φ E (if ch then l else l + 1)))] from h2)]
    obtain ⟨c1, c2, c3, c4⟩ := c
    refine ⟨by simpa using c1, by rw [List.length_map]; exact c2, fun e => by rw [List.length_map]; exact c3 e, fun r hr => ?_⟩
    obtain ⟨r', hr', rfl⟩ := List.mem_map.mp hr
    refine ⟨?_, fun v hv => ?_⟩
    · have := fR1_len (φ := φ) (E := E) (l := if ch then l else l + 1) hl r'
      have := h3 _ h1 ch rs rfl r' hr'
      omega
    · rcases mem_fR1 hv with m | m | ⟨w2, m1, m2⟩
      · exact callOk_sim (hE v m)
      · rw [m]; exact True.intro
      · rw [m2]
        exact callOk_f ((c4 r' hr').2 w2 m1) fun b hb => f b (List.mem_flatMap.mpr ⟨r', hr', List.mem_flatMap.mpr ⟨w2, m1, hb⟩⟩)
/-! the words of a def name its boxes -/
theorem fr_box (k : Str) (ks : List Str) : frm k = ks → frm k = ks := id
theorem boxD_p (w : Pw) : boxD w.d = w.bx := by
  have e1 : ∀ z : Str, stp (Str.ofString "box", PyData.str z) = [z] := fun z => by rw [stp_mk, if_pos rfl]; rfl
  have e2 : ∀ zs : List Str, stp (Str.ofString "boxes", tsL zs) = zs := fun zs => by
    rw [stp_mk, if_neg (by decide +kernel), if_pos rfl]
    exact tStr_map zs
  have e3 : ∀ d, stp (Str.ofString "name", d) = [] := fun d => stp_name
  have e4 : ∀ d, stp (Str.ofString "whole", d) = [] := fun d => by rw [stp_mk, if_neg (by decide +kernel), if_neg (by decide +kernel)]
  cases w with
  | tell b => show ((frm (Str.ofString "tell")).zip [PyData.str b]).flatMap stp = [b]; rw [fr_box _ [Str.ofString "box"] (by decide +kernel)]; simp [e1]
  | wipe b => show ((frm (Str.ofString "wipe")).zip [PyData.str b]).flatMap stp = [b]; rw [fr_box _ [Str.ofString "box"] (by decide +kernel)]; simp [e1]
  | copy a b => show ((frm (Str.ofString "copy")).zip [PyData.str a, PyData.str b]).flatMap stp = [a, b]; rw [fr_box _ [Str.ofString "box", Str.ofString "box"] (by decide +kernel)]; simp [e1]
  | drop bs => show ((frm (Str.ofString "drop")).zip [tsL bs]).flatMap stp = bs; rw [fr_box _ [Str.ofString "boxes"] (by decide +kernel)]; simp only [List.zip_cons_cons, List.zip_nil_right, List.flatMap_cons, List.flatMap_nil, List.append_nil]; exact e2 bs
  | out n => show ((frm (Str.ofString "out")).zip [PyData.int n]).flatMap stp = []; rw [fr_box _ [Str.ofString "whole"] (by decide +kernel)]; simp [e4]
  | back => show ((frm (Str.ofString "back")).zip []).flatMap stp = []; simp
  | call a xs ys =>
    show ((frm (Str.ofString "call")).zip [PyData.str a, tsL xs, tsL ys]).flatMap stp = xs ++ ys
    rw [fr_box _ [Str.ofString "name", Str.ofString "boxes", Str.ofString "boxes"] (by decide +kernel)]
    simp only [List.zip_cons_cons, List.zip_nil_right, List.flatMap_cons, List.flatMap_nil, List.append_nil]
    rw [e3, e2, e2]; rfl
theorem bx_in {D : Dm} {ws : List Wo} (h : ∀ w ∈ ws, OkW D w) {w : Wo} (hw : w ∈ ws) {b : Str} (hb : b ∈ w.bx) : b ∈ bxAll 1 (rowD ws) := by
  have e : allR 1 (rowD ws) = rowD ws :: (ws.map Wo.d).flatMap fun w => (innD w).flatMap (allR 0) := rfl
  unfold bxAll
  rw [e]
  refine List.mem_flatMap.mpr ?_
  cases w with
  | p w =>
    refine ⟨_, List.mem_cons_self, ?_⟩
    show b ∈ (ws.map Wo.d).flatMap boxD
    refine List.mem_flatMap.mpr ⟨_, List.mem_map.mpr ⟨_, hw, rfl⟩, ?_⟩
    rw [show (Wo.p w).d = w.d from rfl, boxD_p]; exact hb
  | r ch rs =>
    obtain ⟨r, hr, hb2⟩ := List.mem_flatMap.mp hb
    obtain ⟨w2, hw2, hb3⟩ := List.mem_flatMap.mp hb2
    refine ⟨rD r, List.mem_cons_of_mem _ (List.mem_flatMap.mpr ⟨_, List.mem_map.mpr ⟨_, hw, rfl⟩, ?_⟩), ?_⟩
    · rw [inn_w (h _ hw)]
      exact List.mem_flatMap.mpr ⟨rD r, List.mem_map.mpr ⟨r, hr, rfl⟩, List.mem_singleton.mpr rfl⟩
    · show b ∈ (r.map Pw.d).flatMap boxD
      refine List.mem_flatMap.mpr ⟨_, List.mem_map.mpr ⟨w2, hw2, rfl⟩, ?_⟩
      rw [boxD_p]; exact hb3
theorem bx_out {D : Dm} {ws : List Wo} (h : ∀ w ∈ ws, OkW D w) {b : Str} (hb : b ∈ bxAll 1 (rowD ws)) : ∃ w ∈ ws, b ∈ w.bx := by
  have e : allR 1 (rowD ws) = rowD ws :: (ws.map Wo.d).flatMap fun w => (innD w).flatMap (allR 0) := rfl
  unfold bxAll at hb
  rw [e] at hb
  obtain ⟨r, hr, hb⟩ := List.mem_flatMap.mp hb
  rcases List.mem_cons.mp hr with rfl | hr
  · obtain ⟨d, hd, hb⟩ := List.mem_flatMap.mp (show b ∈ (ws.map Wo.d).flatMap boxD from hb)
    obtain ⟨w, hw, rfl⟩ := List.mem_map.mp hd
    refine ⟨w, hw, ?_⟩
    cases w with
    | p w => rw [show (Wo.p w).d = w.d from rfl, boxD_p] at hb; exact hb
    | r ch rs =>
      obtain ⟨h1, h2, h3, h4⟩ := h _ hw
      cases ch with
      | true =>
        have : boxD (Wo.r true rs).d = [] := by
          show ((frm (Str.ofString "choose")).zip [PyData.tuple (rs.map rD)]).flatMap stp = []
          rw [fr_box _ [Str.ofString "rows"] (by decide +kernel)]
          simp only [List.zip_cons_cons, List.zip_nil_right, List.flatMap_cons, List.flatMap_nil, List.append_nil]
          rw [stp_mk, if_neg (by decide +kernel), if_neg (by decide +kernel)]
        rw [this] at hb; cases hb
      | false =>
        have : boxD (Wo.r false rs).d = [] := by
          show ((frm (Str.ofString "loop")).zip [rD (rs.headD [])]).flatMap stp = []
          rw [fr_box _ [Str.ofString "row"] (by decide +kernel)]
          simp only [List.zip_cons_cons, List.zip_nil_right, List.flatMap_cons, List.flatMap_nil, List.append_nil]
          rw [stp_mk, if_neg (by decide +kernel), if_neg (by decide +kernel)]
        rw [this] at hb; cases hb
  · obtain ⟨d, hd, hb2⟩ := List.mem_flatMap.mp hr
    obtain ⟨w, hw, rfl⟩ := List.mem_map.mp hd
    refine ⟨w, hw, ?_⟩
    rw [inn_w (h _ hw)] at hb2
    cases w with
    | p w => cases hb2
    | r ch rs =>
      obtain ⟨r', hr', hb3⟩ := List.mem_flatMap.mp hb2
      obtain ⟨q, hq, rfl⟩ := List.mem_map.mp hr'
      rw [List.mem_singleton.mp (show r ∈ [rD q] from hb3)] at hb
      obtain ⟨d2, hd2, hb4⟩ := List.mem_flatMap.mp (show b ∈ (q.map Pw.d).flatMap boxD from hb)
      obtain ⟨w2, hw2, rfl⟩ := List.mem_map.mp hd2
      rw [boxD_p] at hb4
      exact List.mem_flatMap.mpr ⟨q, hq, List.mem_flatMap.mpr ⟨w2, hw2, hb4⟩⟩
end K41

set_option maxHeartbeats 8000000
namespace K41
open PySem PySem.Spec PyProof.Rows L2 Kk RZ
/-! a word by fresh names -/
def BxOk (B : List Str) (w : Pw) : Prop := (∀ b ∈ w.bx, b ∈ B ∧ Qs b) ∧ w.bx.length ≤ 40
def PtB (B : List Str) (q : Str × PyData) : Prop := (q.1 = ("box" : Str) → ∃ b, q.2 = .str b ∧ b ∈ B ∧ Qs b) ∧ (q.1 = ("boxes" : Str) → ∃ bs, q.2 = tsL bs ∧ (∀ b ∈ bs, b ∈ B ∧ Qs b) ∧ bs.length ≤ 40)
def pf (φ : Str → Str) (q : Str × PyData) : PyData := if q.1 = ("box" : Str) then .str (φ ((tStr [q.2]).headD q.1)) else if q.1 = ("boxes" : Str) then tsL ((tStr (itm q.2)).map φ) else q.2
theorem pf_box (φ : Str → Str) (b : Str) : pf φ (Str.ofString "box", .str b) = .str (φ b) := by unfold pf; rw [if_pos rfl]; rfl
theorem pf_boxes (φ : Str → Str) (bs : List Str) : pf φ (Str.ofString "boxes", tsL bs) = tsL (bs.map φ) := by
  unfold pf
  rw [if_neg (show ¬ (Str.ofString "boxes") = Str.ofString "box" by decide +kernel), if_pos rfl]
  show tsL ((tStr (bs.map PyData.str)).map φ) = tsL (bs.map φ)
  rw [tStr_map]
theorem pf_o (φ : Str → Str) (k : Str) (d : PyData) (h : k ≠ ("box" : Str)) (h2 : k ≠ ("boxes" : Str)) : pf φ (k, d) = d := by unfold pf; rw [if_neg h, if_neg h2]
theorem ptb_box {B : List Str} {b : Str} (h : b ∈ B ∧ Qs b) : PtB B (Str.ofString "box", .str b) := ⟨fun _ => ⟨b, rfl, h⟩, fun e => absurd (show Str.ofString "box" = Str.ofString "boxes" from e) (by decide +kernel)⟩
theorem ptb_boxes {B : List Str} {bs : List Str} (h : ∀ b ∈ bs, b ∈ B ∧ Qs b) (hl : bs.length ≤ 40) : PtB B (Str.ofString "boxes", tsL bs) := ⟨fun e => absurd (show Str.ofString "boxes" = Str.ofString "box" from e) (by decide +kernel), fun _ => ⟨bs, rfl, h, hl⟩⟩
theorem ptb_o {B : List Str} {k : Str} {d : PyData} (h : k ≠ ("box" : Str)) (h2 : k ≠ ("boxes" : Str)) : PtB B (k, d) := ⟨fun e => absurd e h, fun e => absurd e h2⟩
theorem word_parts {B : List Str} (φ : Str → Str) {w : Pw} (h : BxOk B w) : ∃ k ps, w.d = .tuple (.str k :: ps) ∧ (k, frm k) ∈ formT ∧ k ≠ ("clear" : Str) ∧ (frm k).length = ps.length ∧ (∀ q ∈ (frm k).zip ps, PtB B q) ∧ (fP φ w).d = .tuple (.str k :: ((frm k).zip ps).map (pf φ)) := by
  obtain ⟨h, hl⟩ := h
  cases w with
  | tell b =>
    refine ⟨Str.ofString "tell", _, rfl, by decide +kernel, by decide +kernel, (show (frm (Str.ofString "tell")).length = 1 by decide +kernel), fun q hq => ?_, ?_⟩
    · rw [fr_box (Str.ofString "tell") [Str.ofString "box"] (by decide +kernel)] at hq
      rw [List.mem_singleton.mp hq]; exact ptb_box (h b List.mem_cons_self)
    · rw [fr_box (Str.ofString "tell") [Str.ofString "box"] (by decide +kernel)]
      show PyData.tuple [ts "tell", .str (φ b)] = .tuple (.str (Str.ofString "tell") :: [pf φ (Str.ofString "box", .str b)])
      rw [pf_box]
  | wipe b =>
    refine ⟨Str.ofString "wipe", _, rfl, by decide +kernel, by decide +kernel, (show (frm (Str.ofString "wipe")).length = 1 by decide +kernel), fun q hq => ?_, ?_⟩
    · rw [fr_box (Str.ofString "wipe") [Str.ofString "box"] (by decide +kernel)] at hq
      rw [List.mem_singleton.mp hq]; exact ptb_box (h b List.mem_cons_self)
    · rw [fr_box (Str.ofString "wipe") [Str.ofString "box"] (by decide +kernel)]
      show PyData.tuple [ts "wipe", .str (φ b)] = .tuple (.str (Str.ofString "wipe") :: [pf φ (Str.ofString "box", .str b)])
      rw [pf_box]
  | copy a b =>
    refine ⟨Str.ofString "copy", _, rfl, by decide +kernel, by decide +kernel, (show (frm (Str.ofString "copy")).length = 2 by decide +kernel), fun q hq => ?_, ?_⟩
    · rw [fr_box (Str.ofString "copy") [Str.ofString "box", Str.ofString "box"] (by decide +kernel)] at hq
      simp only [List.zip_cons_cons, List.zip_nil_right, List.mem_cons, List.not_mem_nil, or_false] at hq
      rcases hq with rfl | rfl
      · exact ptb_box (h a List.mem_cons_self)
      · exact ptb_box (h b (List.mem_cons_of_mem _ List.mem_cons_self))
    · rw [fr_box (Str.ofString "copy") [Str.ofString "box", Str.ofString "box"] (by decide +kernel)]
      show PyData.tuple [ts "copy", .str (φ a), .str (φ b)] = .tuple (.str (Str.ofString "copy") :: [pf φ (Str.ofString "box", .str a), pf φ (Str.ofString "box", .str b)])
      rw [pf_box, pf_box]
  | drop bs =>
    refine ⟨Str.ofString "drop", _, rfl, by decide +kernel, by decide +kernel, (show (frm (Str.ofString "drop")).length = 1 by decide +kernel), fun q hq => ?_, ?_⟩
    · rw [fr_box (Str.ofString "drop") [Str.ofString "boxes"] (by decide +kernel)] at hq
      rw [List.mem_singleton.mp hq]; exact ptb_boxes h hl
    · rw [fr_box (Str.ofString "drop") [Str.ofString "boxes"] (by decide +kernel)]
      show PyData.tuple [ts "drop", tsL (bs.map φ)] = .tuple (.str (Str.ofString "drop") :: [pf φ (Str.ofString "boxes", tsL bs)])
      rw [pf_boxes]
  | out n =>
    refine ⟨Str.ofString "out", _, rfl, by decide +kernel, by decide +kernel, (show (frm (Str.ofString "out")).length = 1 by decide +kernel), fun q hq => ?_, ?_⟩
    · rw [fr_box (Str.ofString "out") [Str.ofString "whole"] (by decide +kernel)] at hq
      rw [List.mem_singleton.mp hq]; exact ptb_o (by decide +kernel) (by decide +kernel)
    · rw [fr_box (Str.ofString "out") [Str.ofString "whole"] (by decide +kernel)]
      show PyData.tuple [ts "out", .int (n : Nat)] = .tuple (.str (Str.ofString "out") :: [pf φ (Str.ofString "whole", .int (n : Nat))])
      rw [pf_o _ _ _ (by decide +kernel) (by decide +kernel)]
  | back =>
    refine ⟨Str.ofString "back", [], rfl, by decide +kernel, by decide +kernel, by decide +kernel, fun q hq => ?_, ?_⟩
    · simp at hq
    · simp; rfl
  | call a xs ys =>
    have hx : ∀ b ∈ xs, b ∈ B ∧ Qs b := fun b hb => h b (List.mem_append_left _ hb)
    have hy : ∀ b ∈ ys, b ∈ B ∧ Qs b := fun b hb => h b (List.mem_append_right _ hb)
    have hl : (xs ++ ys).length ≤ 40 := hl
    rw [List.length_append] at hl
    refine ⟨Str.ofString "call", _, rfl, by decide +kernel, by decide +kernel, (show (frm (Str.ofString "call")).length = 3 by decide +kernel), fun q hq => ?_, ?_⟩
    · rw [fr_box (Str.ofString "call") [Str.ofString "name", Str.ofString "boxes", Str.ofString "boxes"] (by decide +kernel)] at hq
      simp only [List.zip_cons_cons, List.zip_nil_right, List.mem_cons, List.not_mem_nil, or_false] at hq
      rcases hq with rfl | rfl | rfl
      · exact ptb_o (by decide +kernel) (by decide +kernel)
      · exact ptb_boxes hx (by omega)
      · exact ptb_boxes hy (by omega)
    · rw [fr_box (Str.ofString "call") [Str.ofString "name", Str.ofString "boxes", Str.ofString "boxes"] (by decide +kernel)]
      show PyData.tuple [ts "call", .str a, tsL (xs.map φ), tsL (ys.map φ)] = .tuple (.str (Str.ofString "call") :: [pf φ (Str.ofString "name", .str a), pf φ (Str.ofString "boxes", tsL xs), pf φ (Str.ofString "boxes", tsL ys)])
      rw [pf_o _ _ _ (by decide +kernel) (by decide +kernel), pf_boxes, pf_boxes]
section
variable {P : Program} {w : World} {K : PySem.W.Frag} {mg : Str → Option Value} {base : Heap}
abbrev s_fresh_part : Stmt := topS 32
abbrev n_fresh_part : List Str := ["kind", "part", "names", "box"]
theorem sc_fresh_part : FnScope n_fresh_part ["kind", "part", "names"] (defScope s_fresh_part) := ⟨rfl, rfl, rfl, by decide +kernel, rfl, by decide +kernel, by decide +kernel⟩
def spFPart (K : PySem.W.Frag) : Sp := fun vs H Q _ => ∃ (kd : Str) (v : V) (d : PyData) (a : Addr) (φ : Str → Str) (B : List Str), vs = [.str kd, v, .ref a] ∧ Nd H a φ B ∧ Tp K H v d ∧ PtB B (kd, d) ∧ ∀ H' u, Ex [] H H' → Tp K H' u (pf φ (kd, d)) → Q u H'
theorem ok_fresh_part {f f1 : Addr} {fd d1 : FuncData} {k : Nat} (F : Fun K "fresh_part" "fresh_part" s_fresh_part f fd) (C_fresh_box : Cl P w K mg base k "fresh_box" ["box", "names"] spFBox f1 d1) (m_tuple : mg "tuple" = none) : FnOk P w K mg base CX0 (k + 1) f fd ["kind", "part", "names"] (spFPart K) := by
  refine F.ok sc_fresh_part (fun vs H Q E h => ?_) (fun cdv A outer s H vs Q E hr h => ?_)
  · obtain ⟨kd, v, d, a, φ, B, rfl, _⟩ := h; rfl
  · obtain ⟨kd, v, d, a, φ, B, rfl, hN, hT, ⟨p1, p2⟩, q⟩ := h
    refine ⟨_, (pss_cons (ps_if (pt_cmpR op_eq (pv 0) pe_str (nomark _)) (pss_one (ps_ret (pe_call C_fresh_box.g hr (by rfl) C_fresh_box.m C_fresh_box.k C_fresh_box.b .nil pass0 (pa_cons (pv 1) (pa_cons (pv 2) pa_nil))))) pss_nil)
      (pss_cons (ps_if (pt_cmpR op_eq (pv 0) pe_str (nomark _)) (pss_one (ps_ret (pe_callTy call_tuple_of (by rfl) m_tuple (by decide +kernel) (pa_cons (pe_lc (own := [("box", 3)]) (g := gName 3) (tt := tYes) rfl sc_fresh_part.nd (pi_tup (pv 1)) (blkOk_by (N := n_fresh_part) (sc := defScope s_fresh_part) (by decide +kernel)) (fun _ _ _ _ _ => pg_name (i := 3) sc_fresh_part.nd rfl (Or.inl rfl)) (fun _ _ _ _ _ => pts_nil) (fun _ _ _ _ _ => (pe_call C_fresh_box.g hr (by rfl) C_fresh_box.m C_fresh_box.k C_fresh_box.b .nil pass0 (pa_cons (pv 3) (pa_cons (pv 2) pa_nil))))) pa_nil)))) pss_nil)
      (pss_one (ps_ret (pv 1))))), ?_⟩
    refine ⟨.str kd, rfl, rfl, _, rfl, ?_⟩
    by_cases e1 : kd = ("box" : Str)
    · obtain ⟨b, ed, hb, hq⟩ := p1 e1
      have ed : d = .str b := ed
      subst ed
      subst e1
      cases hT
      refine itD rfl ?_
      refine ⟨.str b, rfl, .ref a, rfl, b, a, φ, B, rfl, hN, hb, hq, fun H1 x1 => q H1 _ x1 ?_⟩
      have := pf_box φ b
      rw [show pf φ (("box" : Str), PyData.str b) = .str (φ b) from this]
      exact .str _
    · refine itN (fun e => e1 (V.str.inj e)) ?_
      refine ⟨_, rfl, rfl, _, rfl, ?_⟩
      by_cases e2 : kd = ("boxes" : Str)
      · obtain ⟨bs, ed, hb, hl⟩ := p2 e2
        have ed : d = tsL bs := ed
        subst ed
        subst e2
        refine itD rfl ?_
        cases hT with
        | tup hs ha =>
          rename_i t us
          have eu := strs_of ha
          subst eu
          refine ⟨.ref t, rfl, t, rfl, ⟨_, hs⟩, fun L nL => ?_⟩
          refine lc_data (K := K) (walk_tup (K := K) (a := t) (xs := bs.map V.str)) (ds := (bs.map φ).map PyData.str) (xs := []) (fun _ _ => True) nL (by simp) (by simp) (by rw [List.length_map]; exact Nat.lt_of_le_of_lt hl (by decide)) (fun i H4 x4 _ => x4.seqT hs) (fun _ _ => trivial) (fun _ _ _ _ _ _ _ => trivial)
            (fun i d xv H4 H4' R N hd x4 _ hy hR => ?_) (fun H4 acc x4 hL4 tA _ => ?_)
          · obtain ⟨r1, r2⟩ := hy
            subst r1
            rw [List.getElem?_map] at r2
            rw [List.map_map, List.getElem?_map] at hd
            cases hb' : bs[i]? with
            | none => rw [hb'] at r2; cases r2
            | some b =>
              rw [hb'] at r2 hd
              cases r2
              cases hd
              obtain ⟨m1, m2⟩ := hb b (List.mem_of_getElem? hb')
              refine ⟨rfl, tyes_if ?_⟩
              exact ⟨.str b, rfl, .ref a, rfl, b, a, φ, B, rfl, hN.nil x4, m1, m2, fun H5 x5 => hR _ _ x5 (.str _) trivial⟩
          · have ea := strs_of tA
            subst ea
            refine ⟨L, _, rfl, .inl ⟨.of hL4, fun t2 nt => ?_⟩⟩
            obtain ⟨xt, ht⟩ := nw (o := .tup ((bs.map φ).map V.str)) nt
            refine q _ _ (x4.trans xt) ?_
            rw [show pf φ (("boxes" : Str), tsL bs) = tsL (bs.map φ) from pf_boxes φ bs]
            exact .tup (.of ht) (TpAll.strs _)
      · refine itN (fun e => e2 (V.str.inj e)) ?_
        refine ⟨v, rfl, q H v .refl ?_⟩
        rw [pf_o φ kd d e1 e2]; exact hT
abbrev s_fresh_word : Stmt := topS 33
abbrev n_fresh_word : List Str := ["word", "names", "parts", "kind", "part"]
theorem sc_fresh_word : FnScope n_fresh_word ["word", "names"] (defScope s_fresh_word) := ⟨rfl, rfl, rfl, by decide +kernel, rfl, by decide +kernel, by decide +kernel⟩
def spFWord (K : PySem.W.Frag) : Sp := fun vs H Q _ => ∃ (v : V) (wd : Pw) (a : Addr) (φ : Str → Str) (B : List Str), vs = [v, .ref a] ∧ Nd H a φ B ∧ Tp K H v wd.d ∧ BxOk B wd ∧ ∀ H' u, Ex [] H H' → Tp K H' u (fP φ wd).d → Q u H'
theorem ok_fresh_word {f fA f1 : Addr} {fd d1 : FuncData} {k : Nat} (F : Fun K "fresh_word" "fresh_word" s_fresh_word f fd) (M : Fm K w mg fA) (C_fresh_part : Cl P w K mg base k "fresh_part" ["kind", "part", "names"] (spFPart K) f1 d1) (m_zip : mg "zip" = none) : FnOk P w K mg base CX0 (k + 1) f fd ["word", "names"] (spFWord K) := by
  refine F.ok sc_fresh_word (fun vs H Q E h => ?_) (fun cdv A outer s H vs Q E hr h => ?_)
  · obtain ⟨v, wd, a, φ, B, rfl, _⟩ := h; rfl
  · obtain ⟨v, wd, na, φ, B, rfl, hN, hT, hB, q⟩ := h
    refine ⟨_, (pss_cons (ps_if (pt_cmpR op_eq (pe_ix ix_tup (pv 0) pe_int (fun _ _ => rfl)) pe_str (nomark _)) (pss_one (ps_ret (pe_tup (pa_cons pe_str (pa_cons (pe_dget (un1 hr) (pv 1) (pe_ix ix_tup (pv 0) pe_int (fun _ _ => rfl)) (fun _ _ => rfl)) pa_nil))))) pss_nil)
      (pss_cons (ps_setLc (i := 2) (own := [("kind", 3), ("part", 4)]) (g := gTup K 2 (gCons (gName 3) (gCons (gName 4) gNil))) (tt := tYes) rfl sc_fresh_word.nd rfl rfl (sw_true rfl rfl rfl (by decide +kernel)) (pi_zipA (by rfl) m_zip (pa_cons (pe_ix ix_kdict (pe_glob (v := .ref fA) rfl M.m rfl) (pe_ix ix_tup (pv 0) pe_int (fun _ _ => rfl)) (fun _ _ => rfl)) (pa_cons (pe_slice sl_tupA (pv 0) (po_some pe_int) po_none) pa_nil))) (blkOk_by (N := n_fresh_word) (sc := defScope s_fresh_word) (by decide +kernel)) (fun _ _ _ _ _ => pg_tupK (K := K) rfl rfl (pgs_cons (pg_name (i := 3) sc_fresh_word.nd rfl (Or.inl rfl)) (pgs_cons (pg_name (i := 4) sc_fresh_word.nd rfl (Or.inl rfl)) pgs_nil))) (fun _ _ _ _ _ => pts_nil) (fun _ _ _ _ _ => (pe_call C_fresh_part.g hr (by rfl) C_fresh_part.m C_fresh_part.k C_fresh_part.b .nil pass0 (pa_cons (pv 3) (pa_cons (pv 4) (pa_cons (pv 1) pa_nil))))))
      (pss_one (ps_ret (pe_tup (pa_cons (pe_ix ix_tup (pv 0) pe_int (fun _ _ => rfl)) (StX.pa_star (pv 2) pa_nil))))))), ?_⟩
    obtain ⟨k0, ps, ed, hk, nc, pl, hpt, er⟩ := word_parts φ hB
    rw [ed] at hT
    rw [er] at q
    have fl := frm_len k0
    obtain ⟨tA, hd, hS⟩ := M.k _ _ hk
    cases hT with
    | tup hs ha =>
      rename_i a xs
      cases ha with
      | cons a1 a2 =>
        cases a1
        rename_i rest
        have rl := a2.len
        refine ⟨_, rfl, a, _, 0, _, rfl, rfl, hs, atN (j := 0) rfl, rfl, _, rfl, itN (fun e => nc (V.str.inj e)) ?_⟩
        refine ⟨.ref a, rfl, a, _, 0, _, rfl, rfl, hs, atN (j := 0) rfl, fA, k0, .ref tA, rfl, rfl, hd, ?_⟩
        refine ⟨.ref a, rfl, 1, rfl, a, _, rfl, hs, fun z => absurd z one_cut, fun _ B2 nB => ?_⟩
        rw [cut_one]
        obtain ⟨y2, hB2⟩ := nw (o := .tup rest) nB
        refine ⟨tA, B2, (frm k0).map V.str, rest, rfl, .inr ⟨hS _, .of hB2, fun L nL => ?_⟩⟩
        refine lc_data (K := K) (walk_zipT (xs := (frm k0).map V.str) (ys := rest) (n := (frm k0).length) (by rw [List.length_map]; omega)) (ds := ((frm k0).zip ps).map (pf φ)) (xs := []) (fun _ _ => True) nL (by simp) (by rw [List.length_map, List.length_zip]; omega) (Nat.lt_of_le_of_lt fl (by decide)) (fun i H4 x4 _ => ⟨hS _, x4.seqT (.of hB2)⟩) (fun _ _ => trivial) (fun _ _ _ _ _ _ _ => trivial)
          (fun i d xv H4 H4' R N hd x4 _ hy hR => ?_) (fun H4 acc x4 hL4 tA' _ => ?_)
        · obtain ⟨T, xa, za, e1, nT, e2, e3, e4⟩ := hy
          subst e1
          subst e2
          have e3 : ((frm k0).map V.str)[i]? = some xa := e3
          rw [List.getElem?_map] at e3 hd
          cases hkd : (frm k0)[i]? with
          | none => rw [hkd] at e3; cases e3
          | some kd =>
            rw [hkd] at e3
            cases e3
            obtain ⟨d0, hd1, td⟩ := a2.get e4
            have hz : ((frm k0).zip ps)[i]? = some (kd, d0) := List.getElem?_zip_eq_some.mpr ⟨hkd, hd1⟩
            rw [hz] at hd
            cases hd
            obtain ⟨yT, hTt⟩ := nw (o := .tup [V.str kd, za]) nT
            refine ⟨T, [.str kd, za], rfl, .of hTt, rfl, _, _, rfl, _, _, rfl, rfl, rfl, tyes_if ?_⟩
            have x03 := (y2.trans x4).trans yT
            exact ⟨.str kd, rfl, za, rfl, .ref na, rfl, kd, za, d0, na, φ, B, rfl, hN.nil x03, td.ex x03, hpt _ (List.mem_of_getElem? hz), fun H5 u x5 tu => hR _ _ (yT.trans x5) tu trivial⟩
        · have x04 := y2.trans x4
          have lz := tA'.len
          rw [List.length_map, List.length_zip] at lz
          refine ⟨.ref a, rfl, a, _, 0, _, rfl, rfl, x04.seqT hs, atN (j := 0) rfl, .ref L, rfl, L, acc, rfl, .inr (.of hL4), ?_⟩
          refine ⟨?_, fun t nt => ?_⟩
          · rw [List.append_nil]
            exact Nat.le_trans (show (acc.length + 1) ≤ 4 by omega) (by decide)
          · rw [List.append_nil]
            obtain ⟨xt, ht⟩ := nw (o := .tup (V.str k0 :: acc)) nt
            exact q _ _ (x04.trans xt) (.tup (.of ht) (.cons (.str k0) (tA'.ex xt)))
end
end K41

set_option maxHeartbeats 8000000
namespace K41
open PySem PySem.Spec PyProof.Rows L2 Kk RZ
/-! what stands in the stead of a back -/
section
variable {P : Program} {w : World} {K : PySem.W.Frag} {mg : Str → Option Value} {base : Heap}
abbrev s_going_back : Stmt := topS 34
abbrev n_going_back : List Str := ["one", "names", "gets", "results", "others", "words", "box", "get"]
theorem sc_going_back : FnScope n_going_back ["one", "names", "gets"] (defScope s_going_back) := ⟨rfl, rfl, rfl, by decide +kernel, rfl, by decide +kernel, by decide +kernel⟩
def spBack (K : PySem.W.Frag) : Sp := fun vs H Q _ => ∃ (o na gt : Addr) (x : DfX) (D : Dm) (φ : Str → Str) (B gs : List Str), vs = [.ref o, .ref na, .ref gt] ∧ DfV K H o x ∧ DfO D x ∧ Nd H na φ B ∧ (∀ z, InB x z → z ∈ B) ∧ SqT K H gt (gs.map V.str) ∧ gs.length = x.ys.length ∧
  ∀ H' p us (E : List Pw), H p = none → Ex [] H H' → H' p = some (.lst us) → TpAll K H' us (E.map Pw.d) → (∀ w ∈ E, Sim w) → E.length + 1 = bk x → E.length ≤ 9 → Q (.ref p) H'
theorem ok_going_back {f f1 f2 : Addr} {fd d1 d2 : FuncData} {k : Nat} (F : Fun K "going_back" "going_back" s_going_back f fd) (C_fresh_box : Cl P w K mg base k "fresh_box" ["box", "names"] spFBox f1 d1) (C_others_of : Cl P w K mg base k "others_of" ["one"] (spOthers K) f2 d2)
    (m_zip : mg "zip" = none) (m_len : mg "len" = none) (m_tuple : mg "tuple" = none) : FnOk P w K mg base CX0 (k + 1) f fd ["one", "names", "gets"] (spBack K) := by
  refine F.ok sc_going_back (fun vs H Q E h => ?_) (fun cdv A outer s H vs Q E hr h => ?_)
  · obtain ⟨o, na, gt, x, D, φ, B, gs, rfl, _⟩ := h; rfl
  · obtain ⟨o, na, gt, x, D, φ, B, gs, rfl, hV, hD, hN, hB, hG, lg, q⟩ := h
    refine ⟨_, (pss_cons (ps_setLc (i := 3) (own := [("box", 6)]) (g := gName 6) (tt := tYes) rfl sc_going_back.nd rfl rfl (sw_true rfl rfl rfl (by decide +kernel)) (pi_tup (pe_ix ix_tup (pv 0) pe_int (fun _ _ => rfl))) (blkOk_by (N := n_going_back) (sc := defScope s_going_back) (by decide +kernel)) (fun _ _ _ _ _ => pg_name (i := 6) sc_going_back.nd rfl (Or.inl rfl)) (fun _ _ _ _ _ => pts_nil) (fun _ _ _ _ _ => (pe_call C_fresh_box.g hr (by rfl) C_fresh_box.m C_fresh_box.k C_fresh_box.b .nil pass0 (pa_cons (pv 6) (pa_cons (pv 1) pa_nil)))))
      (pss_cons (ps_setLc (i := 4) (own := [("box", 6)]) (g := gName 6) (tt := tYes) rfl sc_going_back.nd rfl rfl (sw_true rfl rfl rfl (by decide +kernel)) (pi_list (pe_call C_others_of.g hr (by rfl) C_others_of.m C_others_of.k C_others_of.b .nil pass0 (pa_cons (pv 0) pa_nil))) (blkOk_by (N := n_going_back) (sc := defScope s_going_back) (by decide +kernel)) (fun _ _ _ _ _ => pg_name (i := 6) sc_going_back.nd rfl (Or.inl rfl)) (fun _ _ _ _ _ => pts_nil) (fun _ _ _ _ _ => (pe_call C_fresh_box.g hr (by rfl) C_fresh_box.m C_fresh_box.k C_fresh_box.b .nil pass0 (pa_cons (pv 6) (pa_cons (pv 1) pa_nil)))))
      (pss_cons (ps_setLc (i := 5) (own := [("get", 7), ("box", 6)]) (g := gTup K 2 (gCons (gName 7) (gCons (gName 6) gNil))) (tt := tYes) rfl sc_going_back.nd rfl rfl (sw_true rfl rfl rfl (by decide +kernel)) (pi_zipM (by rfl) m_zip (pa_cons (pv 2) (pa_cons (pv 3) pa_nil))) (blkOk_by (N := n_going_back) (sc := defScope s_going_back) (by decide +kernel)) (fun _ _ _ _ _ => pg_tupK (K := K) rfl rfl (pgs_cons (pg_name (i := 7) sc_going_back.nd rfl (Or.inl rfl)) (pgs_cons (pg_name (i := 6) sc_going_back.nd rfl (Or.inl rfl)) pgs_nil))) (fun _ _ _ _ _ => pts_nil) (fun _ _ _ _ _ => (pe_tup (pa_cons pe_str (pa_cons (pv 7) (pa_cons (pv 6) pa_nil))))))
      (pss_cons (ps_expr (pe_bm PySem.F.plainAttrs_list PySem.F.slot_list_extend PySem.F.type_list_extend mt_extend (pv 5) (pa_cons (pe_lc (own := [("box", 6)]) (g := gName 6) (tt := tYes) rfl sc_going_back.nd (pi_list (pv 3)) (blkOk_by (N := n_going_back) (sc := defScope s_going_back) (by decide +kernel)) (fun _ _ _ _ _ => pg_name (i := 6) sc_going_back.nd rfl (Or.inl rfl)) (fun _ _ _ _ _ => pts_nil) (fun _ _ _ _ _ => (pe_tup (pa_cons pe_str (pa_cons (pv 6) pa_nil))))) pa_nil)))
      (pss_cons (ps_if (pt_cmpR op_gt (pe_callB call_len_seq (by rfl) m_len PySem.boot_len (pa_cons (pv 4) pa_nil)) pe_int (nomark _)) (pss_one (ps_expr (pe_bm PySem.F.plainAttrs_list PySem.F.slot_list_append PySem.F.type_list_append mt_append (pv 5) (pa_cons (pe_tup (pa_cons pe_str (pa_cons (pe_callTy call_tuple_of (by rfl) m_tuple (by decide +kernel) (pa_cons (pv 4) pa_nil)) pa_nil))) pa_nil)))) pss_nil)
      (pss_one (ps_ret (pv 5)))))))), ?_⟩
    have sml : ∀ n : Nat, n ≤ 1000 → n < sizeLine := fun n h => Nat.lt_of_le_of_lt h (by decide)
    obtain ⟨a, b, r, h1, h2, h3, h4⟩ := id hV
    have ly := hD.ly
    have qs : ∀ z, InB x z → Qs z := fun z hz => hD.dq.b z (hD.inb hz)
    -- results
    refine ⟨.ref o, rfl, o, _, 2, .ref b, rfl, rfl, h1, rfl, b, rfl, ⟨_, h3⟩, fun L1 nL1 => ?_⟩
    refine lc_data (K := K) (walk_tup (K := K) (a := b) (xs := x.ys.map V.str)) (ds := (x.ys.map φ).map PyData.str) (xs := []) (fun _ _ => True) nL1 (by simp) (by simp) (by rw [List.length_map]; exact sml _ (by omega)) (fun i H4 x4 _ => x4.seqT h3) (fun _ _ => trivial) (fun _ _ _ _ _ _ _ => trivial)
      (fun i d xv H4 H4' R N hd x4 _ hy hR => ?_) (fun H1 acc1 x1 hL1 tA1 _ => ?_)
    · obtain ⟨r1, r2⟩ := hy
      subst r1
      rw [List.getElem?_map] at r2
      rw [List.map_map, List.getElem?_map] at hd
      cases hb' : x.ys[i]? with
      | none => rw [hb'] at r2; cases r2
      | some z =>
        rw [hb'] at r2 hd
        cases r2
        cases hd
        have iz : InB x z := .inr (.inr (List.mem_of_getElem? hb'))
        refine ⟨rfl, tyes_if ?_⟩
        exact ⟨.str z, rfl, .ref na, rfl, z, na, φ, B, rfl, hN.nil x4, hB z iz, qs z iz, fun H5 x5 => hR _ _ x5 (.str _) trivial⟩
    have e1 := strs_of tA1
    subst e1
    -- others
    refine ⟨.ref o, rfl, o, x, D, rfl, hV.ex x1, hD, fun H2 p2 zs np2 x2 hp2 lz mz oz => ?_⟩
    have x02 := x1.trans x2
    refine ⟨p2, rfl, ⟨_, .of hp2⟩, fun L2 nL2 => ?_⟩
    refine lc_data (K := K) (walk_list (K := K) (a := p2) (xs := zs.map V.str)) (ds := (zs.map φ).map PyData.str) (xs := []) (fun _ _ => True) nL2 (by simp) (by simp) (by rw [List.length_map]; exact sml _ (by omega)) (fun i H4 x4 _ => .of (x4.lst hp2)) (fun _ _ => trivial) (fun _ _ _ _ _ _ _ => trivial)
      (fun i d xv H4 H4' R N hd x4 _ hy hR => ?_) (fun H3 acc2 x3 hL2 tA2 _ => ?_)
    · obtain ⟨r1, r2⟩ := hy
      subst r1
      rw [List.getElem?_map] at r2
      rw [List.map_map, List.getElem?_map] at hd
      cases hb' : zs[i]? with
      | none => rw [hb'] at r2; cases r2
      | some z =>
        rw [hb'] at r2 hd
        cases r2
        cases hd
        have iz := mz z (List.mem_of_getElem? hb')
        refine ⟨rfl, tyes_if ?_⟩
        exact ⟨.str z, rfl, .ref na, rfl, z, na, φ, B, rfl, hN.nil (x02.trans x4), hB z iz, qs z iz, fun H5 x5 => hR _ _ x5 (.str _) trivial⟩
    have e2 := strs_of tA2
    subst e2
    have x03 := x02.trans x3
    have hL13 := x3.lst (x2.lst hL1)
    -- the copies
    refine ⟨.ref gt, rfl, .ref L1, rfl, gt, L1, _, _, rfl, x03.seqT hG, .of hL13, fun L3 nL3 => ?_⟩
    refine lc_data (K := K) (walk_zipM (K := K) (a := gt) (b := L1) (xs := gs.map V.str) (ys := (x.ys.map φ).map V.str) (n := x.ys.length) (by simp; omega)) (ds := ((gs.zip (x.ys.map φ)).map fun q => Pw.copy q.1 q.2).map Pw.d) (xs := []) (fun _ _ => True) nL3 (by simp) (by simp; omega) (sml _ (by omega)) (fun i H4 x4 _ => ⟨x4.seqT (x03.seqT hG), .of (x4.lst hL13)⟩) (fun _ _ => trivial) (fun _ _ _ _ _ _ _ => trivial)
      (fun i d xv H4 H4' R N hd x4 _ hy hR => ?_) (fun H5 acc3 x5 hL3 tA3 _ => ?_)
    · obtain ⟨T, xa, za, e1, nT, e2, e3, e4⟩ := hy
      subst e1
      subst e2
      have e3 : (gs.map V.str)[i]? = some xa := e3
      have e4 : ((x.ys.map φ).map V.str)[i]? = some za := e4
      rw [List.getElem?_map] at e3 e4
      rw [List.map_map, List.getElem?_map] at hd
      cases c1 : gs[i]? with
      | none => rw [c1] at e3; cases e3
      | some g1 =>
        cases c2 : (x.ys.map φ)[i]? with
        | none => rw [c2] at e4; cases e4
        | some g2 =>
          rw [c1] at e3; rw [c2] at e4
          cases e3; cases e4
          have hz : (gs.zip (x.ys.map φ))[i]? = some (g1, g2) := List.getElem?_zip_eq_some.mpr ⟨c1, c2⟩
          rw [hz] at hd
          cases hd
          obtain ⟨yT, hTt⟩ := nw (o := .tup [V.str g1, .str g2]) nT
          refine ⟨T, [.str g1, .str g2], rfl, .of hTt, rfl, _, _, rfl, _, _, rfl, rfl, rfl, tyes_if ?_⟩
          refine ⟨.str g1, rfl, .str g2, rfl, (by show 3 ≤ sizeLine; decide), fun t nt => ?_⟩
          obtain ⟨xt, ht⟩ := nw (o := .tup [V.str (Str.ofString "copy"), .str g1, .str g2]) nt
          exact hR _ _ (yT.trans xt) (.tup (.of ht) (.cons (.str _) (.cons (.str _) (.cons (.str _) .nil)))) trivial
    have x05 := x03.trans x5
    have hL15 := x5.lst hL13
    -- the wipes
    refine ⟨.ref L3, rfl, .inl ⟨rfl, _, .of hL3⟩, .ref L1, rfl, L1, rfl, ⟨_, .of hL15⟩, fun L4 nL4 => ?_⟩
    refine lc_data (K := K) (walk_list (K := K) (a := L1) (xs := (x.ys.map φ).map V.str)) (ds := ((x.ys.map φ).map Pw.wipe).map Pw.d) (xs := []) (fun _ _ => True) nL4 (by simp) (by simp) (by rw [List.length_map, List.length_map]; exact sml _ (by omega)) (fun i H4 x4 _ => .of (x4.lst hL15)) (fun _ _ => trivial) (fun _ _ _ _ _ _ _ => trivial)
      (fun i d xv H4 H4' R N hd x4 _ hy hR => ?_) (fun H6 acc4 x6 hL4 tA4 _ => ?_)
    · obtain ⟨r1, r2⟩ := hy
      subst r1
      rw [List.getElem?_map] at r2
      rw [List.map_map, List.getElem?_map] at hd
      cases hb' : (x.ys.map φ)[i]? with
      | none => rw [hb'] at r2; cases r2
      | some z =>
        rw [hb'] at r2 hd
        cases r2
        cases hd
        refine ⟨rfl, tyes_if ?_⟩
        refine ⟨.str z, rfl, (by show 2 ≤ sizeLine; decide), fun t nt => ?_⟩
        obtain ⟨xt, ht⟩ := nw (o := .tup [V.str (Str.ofString "wipe"), .str z]) nt
        exact hR _ _ xt (.tup (.of ht) (.cons (.str _) (.cons (.str _) .nil))) trivial
    have x06 := x05.trans x6
    have hL36 := x6.lst hL3
    have l3 := tA3.len
    have l4 := tA4.len
    simp only [List.length_map, List.length_zip] at l3 l4
    refine ⟨L3, L4, acc3, acc4, rfl, rfl, hL36, hL4, Nat.le_of_lt (sml _ (by omega)), ?_⟩
    obtain ⟨z7, hL7⟩ := pw (o := .lst (acc3 ++ acc4)) hL36
    have nL30 : H L3 = none := x03.f _ nL3
    have x07 : Ex [] H (upd H6 L3 (.lst (acc3 ++ acc4))) := Ex.own nL30 x06 z7
    have t7 := ((tA3.ex x6).app tA4).ex z7
    have hL27 := z7.lst (x6.lst (x5.lst hL2)) (show L2 ∉ [L3] by
      have := ne_of_none hL2 nL3
      simpa using this)
    generalize upd H6 L3 (.lst (acc3 ++ acc4)) = H7 at hL7 x07 t7 hL27 ⊢
    rw [← List.map_append] at t7
    refine ⟨.ref L2, rfl, L2, _, rfl, .inl (.of hL27), _, _, rfl, rfl, _, rfl, ?_⟩
    have sE : ∀ w ∈ ((gs.zip (x.ys.map φ)).map fun q => Pw.copy q.1 q.2) ++ (x.ys.map φ).map Pw.wipe, Sim w := fun w hw => by
      rcases List.mem_append.mp hw with m | m
      · obtain ⟨q, _, rfl⟩ := List.mem_map.mp m; trivial
      · obtain ⟨q, _, rfl⟩ := List.mem_map.mp m; trivial
    have lE : (((gs.zip (x.ys.map φ)).map fun q => Pw.copy q.1 q.2) ++ (x.ys.map φ).map Pw.wipe).length = 2 * x.ys.length := by
      simp only [List.length_append, List.length_map, List.length_zip]; omega
    generalize ((gs.zip (x.ys.map φ)).map fun q => Pw.copy q.1 q.2) ++ (x.ys.map φ).map Pw.wipe = E0 at t7 sE lE
    by_cases ez : zs = []
    · subst ez
      have no : ¬ Oth x := fun z => oz.mpr z rfl
      refine itN (by simp) ?_
      refine ⟨.ref L3, rfl, q H7 L3 _ E0 nL30 x07 hL7 t7 sE ?_ (by omega)⟩
      unfold bk
      rw [if_neg no, lE]
    · have yo := oz.mp ez
      refine itD ?_ ?_
      · show (0 : Int) < (((zs.map φ).map V.str).length : Nat)
        have : 0 < zs.length := List.length_pos_iff.mpr ez
        simp only [List.length_map]; omega
      refine ⟨.ref L3, rfl, .inl ⟨rfl, _, .of hL7⟩, .ref L2, rfl, L2, _, rfl, .inl ⟨.of hL27, fun t nt => ⟨(by show 2 ≤ sizeLine; decide), fun t2 nt2 => ?_⟩⟩⟩
      obtain ⟨xt, ht⟩ := nw (o := .tup ((zs.map φ).map V.str)) nt
      obtain ⟨xt2, ht2⟩ := nw (o := .tup [V.str (Str.ofString "drop"), .ref t]) nt2
      have hL78 := (xt.trans xt2).lst hL7
      refine ⟨L3, _, _, rfl, rfl, hL78, by rw [List.length_append]; exact sml _ (by omega), ?_⟩
      obtain ⟨z9, hL9⟩ := pw (o := .lst ((acc3 ++ acc4) ++ [.ref t2])) hL78
      refine ⟨.ref L3, rfl, q _ L3 _ (E0 ++ [.drop (zs.map φ)]) nL30 (Ex.own nL30 (x07.trans (xt.trans xt2)) z9) hL9 ?_ (fun w hw => ?_) ?_ ?_⟩
      · rw [List.map_append]
        exact ((t7.ex (xt.trans xt2)).app (.cons (.tup (.of ht2) (.cons (.str _) (.cons (.tup (.of (xt2.tup ht)) (TpAll.strs _)) .nil))) .nil)).ex z9
      · rcases List.mem_append.mp hw with m | m
        · exact sE w m
        · rw [List.mem_singleton.mp m]; trivial
      · unfold bk
        rw [if_pos yo, List.length_append, lE]; rfl
      · rw [List.length_append, lE]; simp; omega
end
end K41

set_option maxHeartbeats 8000000
namespace K41
open PySem PySem.Spec PyProof.Rows L2 Kk RZ
/-! rows by fresh names -/
theorem at0 {α : Type} {x : α} {xs : List α} : atI (x :: xs) 0 = some x := atI_nat (j := 0) rfl
abbrev chS : Str := Str.ofString "choose"
def mdW (kd : Str) (rows : List PyData) : PyData := if kd = chS then PyData.tuple [.str kd, .tuple rows] else PyData.tuple [.str kd, rows.headD .none]
theorem inn_r {ch : Bool} {rs : List (List Pw)} (h : ch = false → rs.length = 1) : innD (Wo.r ch rs).d = rs.map rD := by
  cases ch with
  | true => show innD (.tuple [ts "choose", .tuple (rs.map rD)]) = rs.map rD; simp [innD, ts]
  | false =>
    have h1 := h rfl
    cases rs with
    | nil => cases h1
    | cons r rs =>
      have : rs = [] := List.eq_nil_of_length_eq_zero (by simpa using h1)
      subst this
      exact inn_loop _
theorem md_r {ch : Bool} {rs : List (List Pw)} (h : ch = false → rs.length = 1) : mdW (if ch = true then Str.ofString "choose" else Str.ofString "loop") (rs.map rD) = (Wo.r ch rs).d := by
  cases ch with
  | true => rfl
  | false =>
    have h1 := h rfl
    cases rs with
    | nil => cases h1
    | cons r rs => unfold mdW; rw [if_neg (by decide), if_neg (by decide +kernel)]; rfl
theorem head_p (w : Pw) : ∃ k ps, w.d = .tuple (.str k :: ps) ∧ (k = ("back" : Str) ↔ w = .back) ∧ (k = ("call" : Str) ↔ ∃ a xs ys, w = .call a xs ys) ∧ k ≠ ("choose" : Str) ∧ k ≠ ("loop" : Str) := by
  cases w with
  | back => exact ⟨Str.ofString "back", _, rfl, ⟨fun _ => rfl, fun _ => rfl⟩, ⟨fun e => absurd e (by decide +kernel), fun ⟨_, _, _, e⟩ => by cases e⟩, by decide +kernel, by decide +kernel⟩
  | call a xs ys => exact ⟨Str.ofString "call", _, rfl, ⟨fun e => absurd e (by decide +kernel), fun e => by cases e⟩, ⟨fun _ => ⟨a, xs, ys, rfl⟩, fun _ => rfl⟩, by decide +kernel, by decide +kernel⟩
  | tell b => exact ⟨Str.ofString "tell", _, rfl, ⟨fun e => absurd e (by decide +kernel), fun e => by cases e⟩, ⟨fun e => absurd e (by decide +kernel), fun ⟨_, _, _, e⟩ => by cases e⟩, by decide +kernel, by decide +kernel⟩
  | wipe b => exact ⟨Str.ofString "wipe", _, rfl, ⟨fun e => absurd e (by decide +kernel), fun e => by cases e⟩, ⟨fun e => absurd e (by decide +kernel), fun ⟨_, _, _, e⟩ => by cases e⟩, by decide +kernel, by decide +kernel⟩
  | copy a b => exact ⟨Str.ofString "copy", _, rfl, ⟨fun e => absurd e (by decide +kernel), fun e => by cases e⟩, ⟨fun e => absurd e (by decide +kernel), fun ⟨_, _, _, e⟩ => by cases e⟩, by decide +kernel, by decide +kernel⟩
  | drop bs => exact ⟨Str.ofString "drop", _, rfl, ⟨fun e => absurd e (by decide +kernel), fun e => by cases e⟩, ⟨fun e => absurd e (by decide +kernel), fun ⟨_, _, _, e⟩ => by cases e⟩, by decide +kernel, by decide +kernel⟩
  | out n => exact ⟨Str.ofString "out", _, rfl, ⟨fun e => absurd e (by decide +kernel), fun e => by cases e⟩, ⟨fun e => absurd e (by decide +kernel), fun ⟨_, _, _, e⟩ => by cases e⟩, by decide +kernel, by decide +kernel⟩
def kdR (ch : Bool) : Str := if ch = true then Str.ofString "choose" else Str.ofString "loop"
theorem head_r (ch : Bool) (rs : List (List Pw)) : ∃ p, (Wo.r ch rs).d = .tuple [.str (kdR ch), p] := by cases ch <;> exact ⟨_, rfl⟩
theorem kd_ne (ch : Bool) : kdR ch ≠ ("back" : Str) ∧ kdR ch ≠ ("call" : Str) ∧ (kdR ch = ("loop" : Str) ↔ ch = false) := by cases ch <;> decide +kernel
theorem fw_w (w : Wo) : Fw w.d := by
  cases w with
  | p w =>
    obtain ⟨k, ps, e, _, _, n1, n2⟩ := head_p w
    exact .inr (.inr ⟨k, ps, e, n1, n2, inn_p w⟩)
  | r ch rs =>
    cases ch with
    | true => exact .inl ⟨rs.map rD, rfl, by show innD (.tuple [ts "choose", .tuple (rs.map rD)]) = rs.map rD; simp [innD, ts]⟩
    | false => exact .inr (.inl ⟨_, rfl, inn_loop _⟩)
theorem rD_p (r : List Pw) : rowD (r.map Wo.p) = rD r := by
  show PyData.tuple ((r.map Wo.p).map Wo.d) = _
  rw [List.map_map]; rfl
def FOk (B : List Str) (m : Nat) : Wo → Prop
  | .p w => BxOk B w
  | .r ch rs => m = 1 ∧ rs ≠ [] ∧ rs.length ≤ 4 ∧ (ch = false → rs.length = 1) ∧ ∀ r ∈ rs, r.length ≤ 60 ∧ ∀ w ∈ r, BxOk B w
section
variable {P : Program} {w : World} {K : PySem.W.Frag} {mg : Str → Option Value} {base : Heap}
abbrev s_made : Stmt := topS 16
theorem sc_made : FnScope ["kind", "rows"] ["kind", "rows"] (defScope s_made) := ⟨rfl, rfl, rfl, by decide +kernel, rfl, by decide +kernel, by decide +kernel⟩
def spMade (K : PySem.W.Frag) : Sp := fun vs H Q _ => ∃ (kd : Str) (R : Addr) (rv : List V) (rows : List PyData), vs = [.str kd, .ref R] ∧ H R = some (.lst rv) ∧ TpAll K H rv rows ∧ rows ≠ [] ∧ ∀ v H', Ex [] H H' → Tp K H' v (mdW kd rows) → Q v H'
theorem ok_made {f : Addr} {fd : FuncData} {k : Nat} (F : Fun K "made_word" "made_word" s_made f fd) (m_tuple : mg "tuple" = none) : FnOk P w K mg base CX0 (k + 1) f fd ["kind", "rows"] (spMade K) := by
  refine F.ok sc_made (fun vs H Q E h => ?_) (fun cdv A outer s H vs Q E hr h => ?_)
  · obtain ⟨kd, R, rv, rows, rfl, _⟩ := h; rfl
  · obtain ⟨kd, R, rv, rows, rfl, hR, hv, hne, q⟩ := h
    refine ⟨_, (pss_cons (ps_if (pt_cmpR op_eq (pv 0) pe_str (nomark _)) (pss_one (ps_ret (pe_tup (pa_cons (pv 0) (pa_cons (pe_callTy call_tuple_of (by rfl) m_tuple (by decide +kernel) (pa_cons (pv 1) pa_nil)) pa_nil))))) pss_nil)
      (pss_one (ps_ret (pe_tup (pa_cons (pv 0) (pa_cons (pe_ix ix_list (pv 1) pe_int (fun _ _ => rfl)) pa_nil)))))), ?_⟩
    unfold mdW at q
    refine ⟨.str kd, rfl, rfl, _, rfl, ite2 (fun e => ?_) fun e => ?_⟩
    · have e1 : kd = chS := V.str.inj (of_decide_eq_true e)
      rw [if_pos e1] at q
      refine ⟨.str kd, rfl, .ref R, rfl, R, _, rfl, .inl ⟨.of hR, fun t nt => ⟨(by show 2 ≤ sizeLine; decide), fun t2 nt2 => ?_⟩⟩⟩
      obtain ⟨xt, ht⟩ := nw (o := .tup rv) nt
      obtain ⟨xt2, ht2⟩ := nw (o := .tup [.str kd, .ref t]) nt2
      exact q _ _ (xt.trans xt2) (.tup (.of ht2) (.cons (.str kd) (.cons (.tup (.of (xt2.tup ht)) ((hv.ex xt).ex xt2)) .nil)))
    · have e1 : ¬ kd = chS := fun z => e (decide_eq_true (congrArg V.str z))
      rw [if_neg e1] at q
      cases hv with
      | nil => exact absurd rfl hne
      | cons h1 h2 =>
        rename_i v0 vr d0 dr
        refine ⟨.str kd, rfl, .ref R, rfl, R, _, 0, v0, rfl, rfl, .of hR, at0, (by show 2 ≤ sizeLine; decide), fun t2 nt2 => ?_⟩
        obtain ⟨xt2, ht2⟩ := nw (o := .tup [.str kd, v0]) nt2
        exact q _ _ xt2 (.tup (.of ht2) (.cons (.str kd) (.cons (h1.ex xt2) .nil)))

abbrev s_fresh_row : Stmt := topS 35
abbrev n_fresh_row : List Str := ["row", "names", "ending", "loops", "words", "word", "inner", "around", "one"]
theorem sc_fresh_row : FnScope n_fresh_row ["row", "names", "ending", "loops"] (defScope s_fresh_row) := ⟨rfl, rfl, rfl, by decide +kernel, rfl, by decide +kernel, by decide +kernel⟩
def spFRow (K : PySem.W.Frag) (m : Nat) : Sp := fun vs H Q _ => ∃ (v : V) (ws : List Wo) (na e : Addr) (l : Nat) (φ : Str → Str) (B : List Str) (us : List V) (E : List Pw), vs = [v, .ref na, .ref e, .int (l : Nat)] ∧ Tp K H v (rowD ws) ∧ Nd H na φ B ∧ H e = some (.lst us) ∧ TpAll K H us (E.map Pw.d) ∧ E.length ≤ 9 ∧
  (∀ w ∈ ws, FOk B m w) ∧ ws.length ≤ 400 ∧ ∀ H' u, Ex [] H H' → Tp K H' u (rowD (fR φ E l ws)) → Q u H'
theorem ok_fresh_row {f f1 f2 f3 f4 : Addr} {fd d1 d2 d3 d4 : FuncData} {k m : Nat} {spI : Sp} (F : Fun K "fresh_row" "fresh_row" s_fresh_row f fd) (CR : Cl P w K mg base k "rows_of" ["word"] (spRowsOf K) f1 d1) (CM : Cl P w K mg base k "made_word" ["kind", "rows"] (spMade K) f2 d2)
    (CW_ : Cl P w K mg base k "fresh_word" ["word", "names"] (spFWord K) f3 d3) (CI : Cl P w K mg base k "fresh_row" ["row", "names", "ending", "loops"] spI f4 d4) (hI : m = 1 → spI = spFRow K 0) (m_len : mg "len" = none) (m_tuple : mg "tuple" = none) :
    FnOk P w K mg base CX0 (k + 1) f fd ["row", "names", "ending", "loops"] (spFRow K m) := by
  refine F.ok sc_fresh_row (fun vs H Q E h => ?_) (fun cdv A outer s H vs Q E hr h => ?_)
  · obtain ⟨v, ws, na, e, l, φ, B, us, E, rfl, _⟩ := h; rfl
  · obtain ⟨v, ws, na, e, l, φ, B, us, E, rfl, hT, hN, hE, tE, lE, hW, lw, q⟩ := h
    refine ⟨_, (pss_cons (ps_set (i := 4) sc_fresh_row.nd rfl (.inl rfl) (pe_lst pa_nil))
      (pss_cons (ps_for PassesOwn.never rfl (pi_tup (pv 0)) (pg_name (i := 5) sc_fresh_row.nd rfl (.inl rfl))
        (pss_cons (ps_set (i := 6) sc_fresh_row.nd rfl (.inl rfl) (pe_call CR.g hr (by rfl) CR.m CR.k CR.b .nil pass0 (pa_cons (pv 5) pa_nil)))
        (pss_one (ps_if (pt_cmpR op_eq (pe_ix ix_tup (pv 5) pe_int (fun _ _ => rfl)) pe_str (nomark _))
          (pss_one (ps_expr (pe_bm PySem.F.plainAttrs_list PySem.F.slot_list_extend PySem.F.type_list_extend mt_extend (pv 4) (pa_cons (pe_lst (StX.pa_star (pv 2) (pa_cons (pe_tup (pa_cons pe_str (pa_cons (pv 3) pa_nil))) pa_nil))) pa_nil))))
          (pss_one (ps_if (pt_cmpR op_gt (pe_callB call_len_seq (by rfl) m_len PySem.boot_len (pa_cons (pv 6) pa_nil)) pe_int (nomark _))
            (pss_cons (ps_set (i := 7) sc_fresh_row.nd rfl (.inr rfl) (pe_ifExp (pt_cmpR op_eq (pe_ix ix_tup (pv 5) pe_int (fun _ _ => rfl)) pe_str (nomark _)) (pe_op op_add (pv 3) pe_int) (pv 3)))
            (pss_one (ps_expr (pe_bm PySem.F.plainAttrs_list PySem.F.slot_list_append PySem.F.type_list_append mt_append (pv 4) (pa_cons (pe_call CM.g hr (by rfl) CM.m CM.k CM.b .nil pass0 (pa_cons (pe_ix ix_tup (pv 5) pe_int (fun _ _ => rfl)) (pa_cons
              (pe_lc (own := [("one", 8)]) (g := gName 8) (tt := tYes) rfl sc_fresh_row.nd (pi_tup (pv 6)) (blkOk_by (N := n_fresh_row) (sc := defScope s_fresh_row) (by decide +kernel)) (fun _ _ _ _ _ => pg_name (i := 8) sc_fresh_row.nd rfl (Or.inl rfl)) (fun _ _ _ _ _ => pts_nil)
                (fun _ _ _ _ _ => pe_call CI.g hr (by rfl) CI.m CI.k CI.b .nil pass0 (pa_cons (pv 8) (pa_cons (pv 1) (pa_cons (pv 2) (pa_cons (pv 7) pa_nil)))))) pa_nil))) pa_nil)))))
            (pss_one (ps_expr (pe_bm PySem.F.plainAttrs_list PySem.F.slot_list_append PySem.F.type_list_append mt_append (pv 4) (pa_cons (pe_call CW_.g hr (by rfl) CW_.m CW_.k CW_.b .nil pass0 (pa_cons (pv 5) (pa_cons (pv 1) pa_nil))) pa_nil))))))))))
      (pss_one (ps_ret (pe_callTy call_tuple_of (by rfl) m_tuple (by decide +kernel) (pa_cons (pv 4) pa_nil)))))), ?_⟩
    have sml : ∀ n : Nat, n ≤ 10000 → n < sizeLine := fun n h => Nat.lt_of_le_of_lt h (by decide)
    refine ⟨Nat.zero_le _, fun L nL => ?_⟩
    obtain ⟨yL, hL⟩ := nw (o := .lst []) nL
    cases hT with
    | tup hs ha =>
      rename_i a xs
      have hl : xs.length = ws.length := by have := ha.len; rw [List.length_map] at this; exact this
      have eL : e ≠ L := ne_of_none hE nL
      refine ⟨.ref a, rfl, a, rfl, ⟨xs, yL.seqT hs⟩, for_tup (a := a) (xs := xs) (fun i σ H2 => ∃ (y5 y6 y7 y8 : Option V) (vs' : List V), σ = [some (.ref a), some (.ref na), some (.ref e), some (.int (l : Nat)), some (.ref L), y5, y6, y7, y8] ∧
        H2 L = some (.lst vs') ∧ TpAll K H2 vs' ((fR φ E l (ws.take i)).map Wo.d) ∧ i ≤ ws.length ∧ Ex [L] (upd H L (.lst [])) H2) ?_ ?_ ?_ ?_⟩
      · exact ⟨_, _, _, _, [], rfl, hL, .nil, Nat.zero_le _, .refl⟩
      · rintro i σ H2 _ ⟨_, _, _, _, _, _, _, _, _, x2⟩
        exact x2.seqT (yL.seqT hs)
      · rintro i xv σ H2 hx ⟨y5, y6, y7, y8, vs', rfl, k1, k2, hi, x2⟩
        obtain ⟨d, hd, td⟩ := ha.get hx
        rw [List.getElem?_map] at hd
        cases hw : ws[i]? with
        | none => rw [hw] at hd; cases hd
        | some wd =>
        rw [hw] at hd
        cases hd
        have hi' : i < ws.length := (List.getElem?_eq_some_iff.mp hw).1
        have fo := hW wd (List.mem_of_getElem? hw)
        have x02 : Ex [] H H2 := Ex.own nL yL x2
        have td2 := td.ex x02
        have et : fR φ E l (ws.take (i + 1)) = fR φ E l (ws.take i) ++ fW φ E l wd := by
          rw [List.take_add_one, hw]
          unfold fR
          rw [List.flatMap_append]; simp
        have lfr := fR_len (φ := φ) (l := l) lE (ws.take i)
        rw [List.length_take] at lfr
        have lv := k2.len
        rw [List.length_map] at lv
        refine ⟨xv, rfl, xv, wd.d, rfl, td2, fw_w wd, fun H3 u x3 tu => ?_⟩
        have x03 := x02.trans x3
        have td3 := td2.ex x3
        have k13 := x3.lst k1
        cases wd with
        | p w0 =>
          obtain ⟨k0, ps, ed, b1, b2, b3, b4⟩ := head_p w0
          rw [show (Wo.p w0).d = w0.d from rfl, inn_p] at tu
          rw [show (Wo.p w0).d = w0.d from rfl, ed] at td3
          cases tu with
          | tup hu hau =>
          cases hau
          rename_i ua
          cases td3 with
          | tup hs3 ha3 =>
            rename_i ax xs3
            have td3' : Tp K H3 (.ref ax) w0.d := by rw [ed]; exact .tup hs3 ha3
            cases ha3 with
            | cons a1 a2 =>
              cases a1
              refine ⟨.ref ax, rfl, ax, _, 0, _, rfl, rfl, hs3, atN (j := 0) rfl, rfl, _, rfl, ?_⟩
              by_cases eb : w0 = .back
              · refine itD (congrArg V.str (b1.mpr eb)) ?_
                subst eb
                have hE3 : H3 e = some (.lst us) := x03.lst hE
                refine ⟨.ref L, rfl, .inl ⟨rfl, _, .of k13⟩, .ref e, rfl, e, us, rfl, .inr (.of hE3), .int (l : Nat), rfl, (by show 2 ≤ sizeLine; decide), fun t nt => ?_⟩
                obtain ⟨xt, ht⟩ := nw (o := .tup [V.str (Str.ofString "out"), .int (l : Nat)]) nt
                have lu := tE.len
                rw [List.length_map] at lu
                refine ⟨by rw [List.length_append]; exact Nat.le_of_lt (sml _ (by simp; omega)), fun G nG => ?_⟩
                obtain ⟨xg, hg⟩ := nw (o := .lst (us ++ [.ref t])) nG
                have k15 := (xt.trans xg).lst k13
                refine ⟨L, G, _, _, rfl, rfl, k15, hg, by rw [List.length_append]; exact Nat.le_of_lt (sml _ (by simp; omega)), ?_⟩
                obtain ⟨z6, h6⟩ := pw (o := .lst (vs' ++ (us ++ [.ref t]))) k15
                have x36 := (xt.trans xg).nil (ys := [L]) |>.trans z6
                refine ⟨_, _, _, _, _, rfl, h6, ?_, hi', (x2.trans x3.nil).trans x36⟩
                rw [et, List.map_append]
                refine ((k2.ex x3).ex x36).app ?_
                have e2 : (fW φ E l (.p .back)).map Wo.d = E.map Pw.d ++ [(Pw.out l).d] := by
                  show ((E ++ [Pw.out l]).map Wo.p).map Wo.d = _
                  rw [List.map_map, List.map_append]; rfl
                rw [e2]
                exact ((tE.ex x03).ex x36).app (.cons (.tup ((xg.nil (ys := [L]) |>.trans z6).seqT (.of ht)) (.cons (.str _) (.cons (.int _) .nil))) .nil)
              · refine itN (fun z => eb (b1.mp (V.str.inj z))) ?_
                refine ⟨.ref ua, rfl, ua, [], rfl, .inr hu, _, _, rfl, rfl, _, rfl, itN (by simp) ?_⟩
                have fo' : BxOk B w0 := fo
                refine ⟨.ref L, rfl, .inl ⟨rfl, _, .of k13⟩, .ref ax, rfl, .ref na, rfl, .ref ax, w0, na, φ, B, rfl, hN.nil x03, td3', fo', fun H4 u4 x4 tu4 => ?_⟩
                have k14 := x4.lst k13
                refine ⟨L, _, _, rfl, rfl, k14, sml _ (by omega), ?_⟩
                obtain ⟨z6, h6⟩ := pw (o := .lst (vs' ++ [u4])) k14
                refine ⟨_, _, _, _, _, rfl, h6, ?_, hi', ((x2.trans x3.nil).trans x4.nil).trans z6⟩
                have e2 : (fW φ E l (.p w0)).map Wo.d = [(fP φ w0).d] := by
                  show ((fP1 φ E l w0).map Wo.p).map Wo.d = _
                  rw [fP1_ne eb]; rfl
                rw [et, List.map_append, e2]
                exact (((k2.ex x3).ex x4).ex z6).app (.cons (tu4.ex z6) .nil)
        | r ch rs =>
          obtain ⟨m1, f1', f2', f3', f4'⟩ := fo
          obtain ⟨pd, ed⟩ := head_r ch rs
          obtain ⟨n1, n2, n3⟩ := kd_ne ch
          rw [inn_r f3'] at tu
          rw [ed] at td3
          cases tu with
          | tup hu hau =>
          rename_i ua us3
          cases td3 with
          | tup hs3 ha3 =>
            rename_i ax xs3
            cases ha3 with
            | cons a1 a2 =>
              cases a1
              refine ⟨.ref ax, rfl, ax, _, 0, _, rfl, rfl, hs3, atN (j := 0) rfl, rfl, _, rfl, itN (fun z => n1 (V.str.inj z)) ?_⟩
              have l3 := hau.len
              rw [List.length_map] at l3
              have pos := List.length_pos_iff.mpr f1'
              refine ⟨.ref ua, rfl, ua, us3, rfl, .inr hu, _, _, rfl, rfl, _, rfl, itD (by show (0 : Int) < (us3.length : Nat); omega) ?_⟩
              refine ⟨.ref ax, rfl, ax, _, 0, _, rfl, rfl, hs3, atN (j := 0) rfl, rfl, _, rfl, ?_⟩
              cases ch with
              | true =>
                refine itN (fun z => by have := n3.mp (V.str.inj z); cases this) ?_
                refine ⟨.int (l : Nat), rfl, ?_⟩
                refine ⟨.ref L, rfl, .inl ⟨rfl, _, .of k13⟩, .ref ax, rfl, ax, _, 0, _, rfl, rfl, hs3, atN (j := 0) rfl, .ref ua, rfl, ua, rfl, ⟨us3, hu⟩, fun L2 nL2 => ?_⟩
                have LL2 : L ≠ L2 := ne_of_none k13 nL2
                refine lc_data (K := K) (walk_tup (K := K) (a := ua) (xs := us3)) (ds := (rs.map (fR1 φ E l)).map rD) (xs := []) (fun _ _ => True) nL2 (by simp) (by rw [List.length_map, List.length_map]; exact l3) (sml _ (by omega)) (fun i H4 x4 _ => x4.seqT hu) (fun _ _ => trivial) (fun _ _ _ _ _ _ _ => trivial)
                  (fun i d yv H4 H4' R N hd x4 _ hy hR => ?_) (fun H5 acc x5 hL2 tA _ => ?_)
                · obtain ⟨r1, r2⟩ := hy
                  subst r1
                  obtain ⟨d0, hd0, td0⟩ := hau.get r2
                  rw [List.getElem?_map] at hd0
                  rw [List.getElem?_map, List.getElem?_map] at hd
                  cases hr' : rs[i]? with
                  | none => rw [hr'] at hd0; cases hd0
                  | some r =>
                    rw [hr'] at hd0 hd
                    cases hd0; cases hd
                    obtain ⟨g1, g2⟩ := f4' r (List.mem_of_getElem? hr')
                    refine ⟨rfl, tyes_if ?_⟩
                    refine ⟨yv, rfl, .ref na, rfl, .ref e, rfl, .int ((l : Nat) : Int), rfl, ?_⟩
                    rw [hI m1]
                    refine ⟨yv, r.map Wo.p, na, e, l, φ, B, us, E, rfl, (by rw [rD_p]; exact td0.ex x4), hN.nil (x03.trans x4), (x03.trans x4).lst hE, tE.ex (x03.trans x4), lE, fun w hw => ?_, (by rw [List.length_map]; omega), fun H5 u5 x5 tu5 => hR _ _ x5 (by rw [fR_plain, rD_p] at tu5; exact tu5) trivial⟩
                    obtain ⟨w0, hw0, rfl⟩ := List.mem_map.mp hw
                    exact g2 w0 hw0
                · have k15 := x5.lst k13
                  refine ⟨kdR true, L2, acc, _, rfl, hL2, tA, (by simpa using f1'), fun v6 H6 x6 tv6 => ?_⟩
                  have k16 := x6.lst k15
                  refine ⟨L, _, _, rfl, rfl, k16, sml _ (by omega), ?_⟩
                  obtain ⟨z7, h7⟩ := pw (o := .lst (vs' ++ [v6])) k16
                  refine ⟨_, _, _, _, _, rfl, h7, ?_, hi', (((x2.trans x3.nil).trans x5.nil).trans x6.nil).trans z7⟩
                  have e2 : (fW φ E l (.r true rs)).map Wo.d = [(Wo.r true (rs.map (fR1 φ E l))).d] := rfl
                  have e3 : mdW (kdR true) ((rs.map (fR1 φ E l)).map rD) = (Wo.r true (rs.map (fR1 φ E l))).d := md_r (ch := true) fun e => by rw [List.length_map]; exact f3' e
                  rw [e3] at tv6
                  rw [et, List.map_append, e2]
                  exact ((((k2.ex x3).ex x5).ex x6).ex z7).app (.cons (tv6.ex z7) .nil)
              | false =>
                refine itD (congrArg V.str (n3.mpr rfl)) ?_
                refine ⟨.int (l : Nat), rfl, _, _, rfl, rfl, ?_⟩
                refine ⟨.ref L, rfl, .inl ⟨rfl, _, .of k13⟩, .ref ax, rfl, ax, _, 0, _, rfl, rfl, hs3, atN (j := 0) rfl, .ref ua, rfl, ua, rfl, ⟨us3, hu⟩, fun L2 nL2 => ?_⟩
                have LL2 : L ≠ L2 := ne_of_none k13 nL2
                refine lc_data (K := K) (walk_tup (K := K) (a := ua) (xs := us3)) (ds := (rs.map (fR1 φ E (l + 1))).map rD) (xs := []) (fun _ _ => True) nL2 (by simp) (by rw [List.length_map, List.length_map]; exact l3) (sml _ (by omega)) (fun i H4 x4 _ => x4.seqT hu) (fun _ _ => trivial) (fun _ _ _ _ _ _ _ => trivial)
                  (fun i d yv H4 H4' R N hd x4 _ hy hR => ?_) (fun H5 acc x5 hL2 tA _ => ?_)
                · obtain ⟨r1, r2⟩ := hy
                  subst r1
                  obtain ⟨d0, hd0, td0⟩ := hau.get r2
                  rw [List.getElem?_map] at hd0
                  rw [List.getElem?_map, List.getElem?_map] at hd
                  cases hr' : rs[i]? with
                  | none => rw [hr'] at hd0; cases hd0
                  | some r =>
                    rw [hr'] at hd0 hd
                    cases hd0; cases hd
                    obtain ⟨g1, g2⟩ := f4' r (List.mem_of_getElem? hr')
                    refine ⟨rfl, tyes_if ?_⟩
                    refine ⟨yv, rfl, .ref na, rfl, .ref e, rfl, .int (((l + 1) : Nat) : Int), rfl, ?_⟩
                    rw [hI m1]
                    refine ⟨yv, r.map Wo.p, na, e, (l + 1), φ, B, us, E, rfl, (by rw [rD_p]; exact td0.ex x4), hN.nil (x03.trans x4), (x03.trans x4).lst hE, tE.ex (x03.trans x4), lE, fun w hw => ?_, (by rw [List.length_map]; omega), fun H5 u5 x5 tu5 => hR _ _ x5 (by rw [fR_plain, rD_p] at tu5; exact tu5) trivial⟩
                    obtain ⟨w0, hw0, rfl⟩ := List.mem_map.mp hw
                    exact g2 w0 hw0
                · have k15 := x5.lst k13
                  refine ⟨kdR false, L2, acc, _, rfl, hL2, tA, (by simpa using f1'), fun v6 H6 x6 tv6 => ?_⟩
                  have k16 := x6.lst k15
                  refine ⟨L, _, _, rfl, rfl, k16, sml _ (by omega), ?_⟩
                  obtain ⟨z7, h7⟩ := pw (o := .lst (vs' ++ [v6])) k16
                  refine ⟨_, _, _, _, _, rfl, h7, ?_, hi', (((x2.trans x3.nil).trans x5.nil).trans x6.nil).trans z7⟩
                  have e2 : (fW φ E l (.r false rs)).map Wo.d = [(Wo.r false (rs.map (fR1 φ E (l + 1)))).d] := rfl
                  have e3 : mdW (kdR false) ((rs.map (fR1 φ E (l + 1))).map rD) = (Wo.r false (rs.map (fR1 φ E (l + 1)))).d := md_r (ch := false) fun e => by rw [List.length_map]; exact f3' e
                  rw [e3] at tv6
                  rw [et, List.map_append, e2]
                  exact ((((k2.ex x3).ex x5).ex x6).ex z7).app (.cons (tv6.ex z7) .nil)
      · rintro σ H2 ⟨y5, y6, y7, y8, vs', rfl, k1, k2, hi, x2⟩
        rw [hl, List.take_length] at k2
        refine ⟨.ref L, rfl, L, _, rfl, .inl ⟨.of k1, fun t nt => ?_⟩⟩
        obtain ⟨xt, ht⟩ := nw (o := .tup vs') nt
        exact q _ _ ((Ex.own nL yL x2).trans xt) (.tup (.of ht) (k2.ex xt))
end
end K41

set_option maxHeartbeats 8000000
namespace Kk
open PySem PySem.Spec PyProof.Rows L2
theorem PI.or {X : Cx} {tg iter : Expr} {w1 w2 : TI} (h1 : PI X tg iter w1) (h2 : PI X tg iter w2) : PI X tg iter (fun σ H R => w1 σ H R ∨ w2 σ H R) := ⟨fun pins s σ H R I h => h.elim (h1.run pins s σ H R I) (h2.run pins s σ H R I)⟩
end Kk
namespace K41
open PySem PySem.Spec PyProof.Rows L2 Kk RZ
/-! rows whose words are counted -/
inductive All2 (R : PyData → Nat → Prop) : List PyData → List Nat → Prop
  | nil : All2 R [] []
  | cons {d : PyData} {k : Nat} {ds : List PyData} {ks : List Nat} : R d k → All2 R ds ks → All2 R (d :: ds) (k :: ks)
theorem All2.len {R : PyData → Nat → Prop} {ds : List PyData} {ks : List Nat} (h : All2 R ds ks) : ds.length = ks.length := by
  induction h with
  | nil => rfl
  | cons _ _ ih => rw [List.length_cons, List.length_cons, ih]
theorem All2.app {R : PyData → Nat → Prop} {ds es : List PyData} {ks ls : List Nat} (h : All2 R ds ks) (g : All2 R es ls) : All2 R (ds ++ es) (ks ++ ls) := by
  induction h with
  | nil => exact g
  | cons a _ ih => exact .cons a ih
theorem All2.mono {R S : PyData → Nat → Prop} {ds : List PyData} {ks : List Nat} (h : All2 R ds ks) (f : ∀ d k, R d k → S d k) : All2 S ds ks := by
  induction h with
  | nil => exact .nil
  | cons a _ ih => exact .cons (f _ _ a) ih
theorem All2.at {R : PyData → Nat → Prop} {ds : List PyData} {ks : List Nat} (h : All2 R ds ks) : ∀ {i : Nat} {d : PyData}, ds[i]? = some d → ∃ k, ks[i]? = some k ∧ R d k := by
  induction h with
  | nil => intro i d e; simp at e
  | cons a _ ih =>
    intro i d e
    cases i with
    | zero => cases e; exact ⟨_, rfl, a⟩
    | succ i =>
      obtain ⟨k, h1, h2⟩ := ih (i := i) (by simpa using e)
      exact ⟨k, by simpa using h1, h2⟩
def CnW (R : PyData → Nat → Prop) (w : PyData) (k : Nat) : Prop := (∃ kd ps, w = .tuple (.str kd :: ps) ∧ kd ≠ ("choose" : Str) ∧ kd ≠ ("loop" : Str) ∧ k = 1) ∨
  (∃ rs ks, w = .tuple [.str ("choose" : Str), .tuple rs] ∧ All2 R rs ks ∧ k = 1 + ks.sum ∧ rs.length ≤ 1000) ∨ (∃ r k', w = .tuple [.str ("loop" : Str), r] ∧ R r k' ∧ k = 1 + k')
theorem CnW.mono {R S : PyData → Nat → Prop} {w : PyData} {k : Nat} (h : CnW R w k) (f : ∀ d k, R d k → S d k) : CnW S w k := by
  rcases h with h | ⟨rs, ks, a, b, c, d⟩ | ⟨r, k', a, b, c⟩
  · exact .inl h
  · exact .inr (.inl ⟨rs, ks, a, b.mono f, c, d⟩)
  · exact .inr (.inr ⟨r, k', a, f _ _ b, c⟩)
def Cn : Nat → PyData → Nat → Prop
  | 0, _, _ => False
  | d + 1, r, m => ∃ ws ks, r = .tuple ws ∧ All2 (CnW (Cn d)) ws ks ∧ m = ks.sum
theorem Cn.up : ∀ {d : Nat} {r : PyData} {m : Nat}, Cn d r m → Cn (d + 1) r m
  | 0, _, _, h => h.elim
  | d + 1, r, m, h => by
    obtain ⟨ws, ks, a, b, c⟩ := h
    exact ⟨ws, ks, a, b.mono fun w k h => h.mono fun _ _ => Cn.up, c⟩
theorem Cn.le {d e : Nat} {r : PyData} {m : Nat} (h : Cn d r m) (l : d ≤ e) : Cn e r m := by
  induction l with
  | refl => exact h
  | step _ ih => exact ih.up
/-- no call -/
def NoC : Pw → Prop
  | .call _ _ _ => False
  | _ => True
theorem cnw_p {R : PyData → Nat → Prop} (w : Pw) : CnW R w.d 1 := by
  obtain ⟨k, ps, e, _, _, n1, n2⟩ := head_p w
  exact .inl ⟨k, ps, e, n1, n2, rfl⟩
theorem cn_rD (d : Nat) (r : List Pw) : Cn (d + 1) (rD r) r.length := by
  refine ⟨_, List.replicate r.length 1, rfl, ?_, by simp⟩
  induction r with
  | nil => exact .nil
  | cons w r ih => exact .cons (cnw_p w) ih
theorem szQ_noC {sz : Str → Nat} {r : List Pw} (h : ∀ w ∈ r, NoC w) : szQ sz 1 r = r.length := by
  induction r with
  | nil => rfl
  | cons w r ih =>
    have e : szQ sz 1 (w :: r) = szP sz 1 w + szQ sz 1 r := by unfold szQ; rw [List.map_cons, List.sum_cons]
    have : szP sz 1 w = 1 := by
      have := h w List.mem_cons_self
      cases w <;> first | rfl | exact this.elim
    rw [e, this, ih fun w hw => h w (List.mem_cons_of_mem _ hw), List.length_cons]; omega
theorem cnw_r {sz : Str → Nat} (d : Nat) {ch : Bool} {rs : List (List Pw)} (h1 : ch = false → rs.length = 1) (hl : rs.length ≤ 1000) (h : ∀ r ∈ rs, ∀ w ∈ r, NoC w) : CnW (Cn (d + 1)) (Wo.r ch rs).d (szW sz 1 (.r ch rs)) := by
  cases ch with
  | true =>
    refine .inr (.inl ⟨rs.map rD, rs.map (szQ sz 1), rfl, ?_, rfl, by rw [List.length_map]; exact hl⟩)
    clear h1 hl
    induction rs with
    | nil => exact .nil
    | cons r rs ih =>
      refine .cons ?_ (ih fun r hr => h r (List.mem_cons_of_mem _ hr))
      rw [szQ_noC (h r List.mem_cons_self)]
      exact cn_rD d r
  | false =>
    have l1 := h1 rfl
    cases rs with
    | nil => cases l1
    | cons r rs =>
      have : rs = [] := List.eq_nil_of_length_eq_zero (by simpa using l1)
      subst this
      refine .inr (.inr ⟨rD r, szQ sz 1 r, rfl, ?_, by show 1 + (szQ sz 1 r + 0) = _; omega⟩)
      rw [szQ_noC (h r List.mem_cons_self)]
      exact cn_rD d r
structure TOk (T : List TD) (sz : Str → Nat) : Prop where
  nd : ∀ (i j : Nat) (t t' : TD), T[i]? = some t → T[j]? = some t' → t.a = t'.a → i = j
  df : ∀ (i : Nat) (t : TD), T[i]? = some t → ∃ D, DfO D t.x ∧ (∀ w ∈ t.ws, OkW D w) ∧ t.ws.length ≤ 300 ∧ (∀ w ∈ t.ws, CW T i w) ∧ sz t.a = 1 + 2 * t.xs.length + szR sz (bk t.x) t.ws + bk t.x
theorem CallOk.up {T : List TD} {n m : Nat} (l : n ≤ m) {w : Pw} (h : CallOk T n w) : CallOk T m w := by
  cases w with
  | call a xs ys =>
    obtain ⟨i, t, h1, h⟩ := h
    exact ⟨i, t, by omega, h⟩
  | _ => exact True.intro
theorem CW.up {T : List TD} {n m : Nat} (l : n ≤ m) {w : Wo} (h : CW T n w) : CW T m w := by
  cases w with
  | p w => exact CallOk.up l h
  | r ch rs => exact h
theorem noC_of {T : List TD} {w : Pw} (h : CallOk T 0 w) : NoC w := by
  cases w with
  | call a xs ys =>
    obtain ⟨i, t, h1, _⟩ := h
    omega
  | _ => exact True.intro
/-- a row's items: of a tuple, or of a list -/
def RowAt (b : Bool) (K : PySem.W.Frag) (H : Hp) (a : Addr) (us : List V) : Prop := if b = true then SqT K H a us else H a = some (.lst us)
theorem RowAt.ex {b : Bool} {K : PySem.W.Frag} {H H' : Hp} {a : Addr} {us : List V} {xs : List Addr} (h : RowAt b K H a us) (e : Ex xs H H') (n : b = false → a ∉ xs) : RowAt b K H' a us := by
  cases b with
  | true => exact e.seqT h
  | false => exact e.lst h (n rfl)
theorem for_row {K : PySem.W.Frag} {b : Bool} {a : Addr} {xs : List V} {te : TE} {g : TG} {tb : TS} {D : Ends} {σ : L2.St} {H : Hp} (hte : ∀ Q : VK, Q (.ref a) H → te σ H Q) (Pv : Nat → L2.St → Hp → Prop) (h0 : Pv 0 σ H) (hl : ∀ i σ H, i ≤ xs.length → Pv i σ H → RowAt b K H a xs)
    (hs : ∀ i x σ H, xs[i]? = some x → Pv i σ H → g x σ H fun σ2 H2 => tb { D with nx := Pv (i + 1), ct := Pv (i + 1), bk := D.nx } σ2 H2) (hd : ∀ σ H, Pv xs.length σ H → D.nx σ H) :
    (iTup K te σ H fun J H1 => ∃ W : Nat → Nat → L2.St → Hp → Prop, (∃ m, W 0 m σ H1) ∧ ∀ i m σ H, W i m σ H →
      (J.stop i H ∧ D.nx σ H) ∨ (J.go i H ∧ ∃ N : L2.St → Hp → Prop, (∀ σ' H', N σ' H' → ∃ m', m' < m ∧ W (i + 1) m' σ' H') ∧ ∀ x H', J.yld i H x H' → g x σ H' fun σ2 H2 => tb { D with nx := N, ct := N, bk := D.nx } σ2 H2)) ∨
    (iList K te σ H fun J H1 => ∃ W : Nat → Nat → L2.St → Hp → Prop, (∃ m, W 0 m σ H1) ∧ ∀ i m σ H, W i m σ H →
      (J.stop i H ∧ D.nx σ H) ∨ (J.go i H ∧ ∃ N : L2.St → Hp → Prop, (∀ σ' H', N σ' H' → ∃ m', m' < m ∧ W (i + 1) m' σ' H') ∧ ∀ x H', J.yld i H x H' → g x σ H' fun σ2 H2 => tb { D with nx := N, ct := N, bk := D.nx } σ2 H2)) := by
  cases b with
  | true => exact .inl (hte _ ⟨a, rfl, ⟨xs, hl 0 σ H (Nat.zero_le _) h0⟩, for_tup Pv h0 hl hs hd⟩)
  | false => exact .inr (hte _ ⟨a, rfl, ⟨xs, .of (hl 0 σ H (Nat.zero_le _) h0)⟩, for_list Pv h0 (fun i σ H h p => .of (hl i σ H h p)) hs hd⟩)
section
variable {P : Program} {w : World} {K : PySem.W.Frag} {mg : Str → Option Value} {base : Heap}
abbrev s_cip : Stmt := topS 37
abbrev n_cip : List Str := ["program", "row", "fresh", "words", "word", "inner", "one"]
theorem sc_cip : FnScope n_cip ["program", "row", "fresh"] (defScope s_cip) := ⟨rfl, rfl, rfl, by decide +kernel, rfl, by decide +kernel, by decide +kernel⟩
/-- a row without rows and calls: as it is -/
def spCip0 (K : PySem.W.Frag) : Sp := fun vs H Q _ => ∃ (p v f : V) (r : List Pw), vs = [p, v, f] ∧ Tp K H v (rD r) ∧ (∀ w ∈ r, NoC w) ∧ r.length ≤ 1000 ∧ ∀ H' u, Ex [] H H' → Tp K H' u (rD r) → Q u H'
def spCip (K : PySem.W.Frag) (CF Tg : Addr) (T : List TD) (sz : Str → Nat) (n : Nat) : Sp := fun vs H Q _ => ∃ (p q : Addr) (xs : List V) (rv : V) (main : List PyData) (ra : Addr) (b : Bool) (us : List V) (ws : List Wo) (fr tk : Addr) (g : Nat), vs = [.ref p, .ref ra, .ref fr] ∧
  Pg K H p q (T.map TD.x) main xs rv ∧ RowAt b K H ra us ∧ TpAll K H us (ws.map Wo.d) ∧ (∀ w ∈ ws, CW T n w) ∧ ws.length ≤ 8000 ∧ GxR.TabG H Tg ∧ FrH CF H fr tk g ∧ g + 6 * szR sz 1 ws ≤ 2000 ∧
  ∀ H' u r g', Ex [fr] H H' → Tp K H' u r → Cn (n + 2) r (szR sz 1 ws) → FrH CF H' fr tk g' → g' ≤ g + 6 * szR sz 1 ws → Q u H'
def spCall (K : PySem.W.Frag) (CF Tg : Addr) (T : List TD) (sz : Str → Nat) (n : Nat) : Sp := fun vs H Q _ => ∃ (p q : Addr) (xs : List V) (rv : V) (main : List PyData) (v : V) (a : Str) (as gs : List Str) (fr tk : Addr) (g : Nat), vs = [.ref p, v, .ref fr] ∧
  Pg K H p q (T.map TD.x) main xs rv ∧ Tp K H v (Pw.call a as gs).d ∧ CallOk T n (.call a as gs) ∧ GxR.TabG H Tg ∧ FrH CF H fr tk g ∧ g + 6 * sz a ≤ 2000 ∧
  ∀ H' u d g', Ex [fr] H H' → Tp K H' u d → CnW (Cn (n + 1)) d (sz a) → FrH CF H' fr tk g' → g' ≤ g + 6 * sz a → Q u H'
theorem ok_cip0 {f f1 f2 f3 f4 : Addr} {fd d1 d2 d3 d4 : FuncData} {k : Nat} {spC spI : Sp} (F : Fun K "calls_in_place" "calls_in_place" s_cip f fd) (CR : Cl P w K mg base k "rows_of" ["word"] (spRowsOf K) f1 d1) (CM : Cl P w K mg base k "made_word" ["kind", "rows"] (spMade K) f2 d2)
    (CC : Cl P w K mg base k "call_in_place" ["program", "word", "fresh"] spC f3 d3) (CI : Cl P w K mg base k "calls_in_place" ["program", "row", "fresh"] spI f4 d4) (m_len : mg "len" = none) (m_tuple : mg "tuple" = none) :
    FnOk P w K mg base CX0 (k + 1) f fd ["program", "row", "fresh"] (spCip0 K) := by
  refine F.ok sc_cip (fun vs H Q E h => ?_) (fun cdv A outer s H vs Q E hr h => ?_)
  · obtain ⟨p, v, fv, r, rfl, _⟩ := h; rfl
  · obtain ⟨p, v, fv, r, rfl, hT, hC, lr, q⟩ := h
    refine ⟨_, (pss_cons (ps_set (i := 3) sc_cip.nd rfl (.inl rfl) (pe_lst pa_nil))
      (pss_cons (ps_for PassesOwn.never rfl (pi_tup (pv 1)) (pg_name (i := 4) sc_cip.nd rfl (.inl rfl)) (pss_cons (ps_set (i := 5) sc_cip.nd rfl (.inl rfl) (pe_call CR.g hr (by rfl) CR.m CR.k CR.b .nil pass0 (pa_cons (pv 4) pa_nil)))
      (pss_one (ps_if (pt_cmpR op_eq (pe_ix ix_tup (pv 4) pe_int (fun _ _ => rfl)) pe_str (nomark _)) (pss_one (ps_expr (pe_bm PySem.F.plainAttrs_list PySem.F.slot_list_append PySem.F.type_list_append mt_append (pv 3) (pa_cons (pe_call CC.g hr (by rfl) CC.m CC.k CC.b .nil pass0 (pa_cons (pv 0) (pa_cons (pv 4) (pa_cons (pv 2) pa_nil)))) pa_nil)))) (pss_one (ps_if (pt_cmpR op_gt (pe_callB call_len_seq (by rfl) m_len PySem.boot_len (pa_cons (pv 5) pa_nil)) pe_int (nomark _)) (pss_one (ps_expr (pe_bm PySem.F.plainAttrs_list PySem.F.slot_list_append PySem.F.type_list_append mt_append (pv 3) (pa_cons (pe_call CM.g hr (by rfl) CM.m CM.k CM.b .nil pass0 (pa_cons (pe_ix ix_tup (pv 4) pe_int (fun _ _ => rfl)) (pa_cons (pe_lc (own := [("one", 6)]) (g := gName 6) (tt := tYes) rfl sc_cip.nd (pi_tup (pv 5)) (blkOk_by (N := n_cip) (sc := defScope s_cip) (by decide +kernel)) (fun _ _ _ _ _ => pg_name (i := 6) sc_cip.nd rfl (Or.inl rfl)) (fun _ _ _ _ _ => pts_nil) (fun _ _ _ _ _ => (pe_call CI.g hr (by rfl) CI.m CI.k CI.b .nil pass0 (pa_cons (pv 0) (pa_cons (pv 6) (pa_cons (pv 2) pa_nil)))))) pa_nil))) pa_nil)))) (pss_one (ps_expr (pe_bm PySem.F.plainAttrs_list PySem.F.slot_list_append PySem.F.type_list_append mt_append (pv 3) (pa_cons (pv 4) pa_nil))))))))))
      (pss_one (ps_ret (pe_callTy call_tuple_of (by rfl) m_tuple (by decide +kernel) (pa_cons (pv 3) pa_nil)))))), ?_⟩
    have sml : ∀ n : Nat, n ≤ 10000 → n < sizeLine := fun n h => Nat.lt_of_le_of_lt h (by decide)
    refine ⟨Nat.zero_le _, fun L nL => ?_⟩
    obtain ⟨yL, hL⟩ := nw (o := .lst []) nL
    cases hT with
    | tup hs ha =>
      rename_i a xs
      have hl : xs.length = r.length := by have := ha.len; rw [List.length_map] at this; exact this
      refine ⟨.ref a, rfl, a, rfl, ⟨xs, yL.seqT hs⟩, for_tup (a := a) (xs := xs) (fun i σ H2 => ∃ (y4 y5 y6 : Option V) (vs' : List V), σ = [some p, some (.ref a), some fv, some (.ref L), y4, y5, y6] ∧
        H2 L = some (.lst vs') ∧ TpAll K H2 vs' ((r.take i).map Pw.d) ∧ i ≤ r.length ∧ Ex [L] (upd H L (.lst [])) H2) ?_ ?_ ?_ ?_⟩
      · exact ⟨_, _, _, [], rfl, hL, .nil, Nat.zero_le _, .refl⟩
      · rintro i σ H2 _ ⟨_, _, _, _, _, _, _, _, x2⟩
        exact x2.seqT (yL.seqT hs)
      · rintro i xv σ H2 hx ⟨y4, y5, y6, vs', rfl, k1, k2, hi, x2⟩
        obtain ⟨d, hd, td⟩ := ha.get hx
        rw [List.getElem?_map] at hd
        cases hw : r[i]? with
        | none => rw [hw] at hd; cases hd
        | some w0 =>
        rw [hw] at hd
        cases hd
        have hi' : i < r.length := (List.getElem?_eq_some_iff.mp hw).1
        have x02 : Ex [] H H2 := Ex.own nL yL x2
        have td2 := td.ex x02
        have nc := hC w0 (List.mem_of_getElem? hw)
        refine ⟨xv, rfl, xv, w0.d, rfl, td2, fw_w (.p w0), fun H3 u x3 tu => ?_⟩
        rw [inn_p] at tu
        have td3 := td2.ex x3
        have k13 := x3.lst k1
        have lv := k2.len
        rw [List.length_map, List.length_take] at lv
        obtain ⟨k0, ps, ed, b1, b2, b3, b4⟩ := head_p w0
        have td3' := td3
        rw [ed] at td3
        cases tu with
        | tup hu hau =>
        cases hau
        rename_i ua
        cases td3 with
        | tup hs3 ha3 =>
          rename_i ax xs3
          cases ha3 with
          | cons a1 a2 =>
            cases a1
            have n2 : ¬ V.str k0 = V.str (Str.ofString "call") := fun z => by
              obtain ⟨_, _, _, e⟩ := b2.mp (V.str.inj z)
              rw [e] at nc; exact nc
            refine ⟨.ref ax, rfl, ax, _, 0, _, rfl, rfl, hs3, atN (j := 0) rfl, rfl, _, rfl, itN n2 ?_⟩
            refine ⟨.ref ua, rfl, ua, [], rfl, .inr hu, _, _, rfl, rfl, _, rfl, itN (by simp) ?_⟩
            refine ⟨.ref L, rfl, .inl ⟨rfl, _, .of k13⟩, .ref ax, rfl, L, _, _, rfl, rfl, k13, sml _ (by omega), ?_⟩
            obtain ⟨z6, h6⟩ := pw (o := .lst (vs' ++ [.ref ax])) k13
            refine ⟨_, _, _, _, rfl, h6, ?_, hi', (x2.trans x3.nil).trans z6⟩
            rw [List.take_add_one, hw, List.map_append]
            exact ((k2.ex x3).ex z6).app (.cons (td3'.ex z6) .nil)
      · rintro σ H2 ⟨y4, y5, y6, vs', rfl, k1, k2, hi, x2⟩
        rw [hl, List.take_length] at k2
        refine ⟨.ref L, rfl, L, _, rfl, .inl ⟨.of k1, fun t nt => ?_⟩⟩
        obtain ⟨xt, ht⟩ := nw (o := .tup vs') nt
        exact q _ _ ((Ex.own nL yL x2).trans xt) (.tup (.of ht) (k2.ex xt))
theorem ok_cip {f f1 f2 f3 f4 CF Tg : Addr} {T : List TD} {sz : Str → Nat} {n : Nat} {fd d1 d2 d3 d4 : FuncData} {k : Nat} {spC : Sp} (F : Fun K "calls_in_place" "calls_in_place" s_cip f fd) (CR : Cl P w K mg base k "rows_of" ["word"] (spRowsOf K) f1 d1) (CM : Cl P w K mg base k "made_word" ["kind", "rows"] (spMade K) f2 d2)
    (CC : Cl P w K mg base k "call_in_place" ["program", "word", "fresh"] spC f3 d3) (hC : ∀ j, n = j + 1 → spC = spCall K CF Tg T sz n) (CI : Cl P w K mg base k "calls_in_place" ["program", "row", "fresh"] (spCip0 K) f4 d4) (m_len : mg "len" = none) (m_tuple : mg "tuple" = none) :
    FnOk P w K mg base CX0 (k + 1) f fd ["program", "row", "fresh"] (spCip K CF Tg T sz n) := by
  refine F.ok sc_cip (fun vs H Q E h => ?_) (fun cdv A outer s H vs Q E hr h => ?_)
  · obtain ⟨p, q0, xs, rv, main, ra, b, us, ws, fr, tk, g, rfl, _⟩ := h; rfl
  · obtain ⟨p, q0, xs, rv, main, ra, b, us, ws, fr, tk, g, rfl, hP, hR, hU, hW, lw, hT, hF, hg, q⟩ := h
    refine ⟨_, (pss_cons (ps_set (i := 3) sc_cip.nd rfl (.inl rfl) (pe_lst pa_nil))
      (pss_cons (ps_for PassesOwn.never rfl (PI.or (pi_tup (pv 1)) (pi_list (pv 1))) (pg_name (i := 4) sc_cip.nd rfl (.inl rfl)) (pss_cons (ps_set (i := 5) sc_cip.nd rfl (.inl rfl) (pe_call CR.g hr (by rfl) CR.m CR.k CR.b .nil pass0 (pa_cons (pv 4) pa_nil)))
      (pss_one (ps_if (pt_cmpR op_eq (pe_ix ix_tup (pv 4) pe_int (fun _ _ => rfl)) pe_str (nomark _)) (pss_one (ps_expr (pe_bm PySem.F.plainAttrs_list PySem.F.slot_list_append PySem.F.type_list_append mt_append (pv 3) (pa_cons (pe_call CC.g hr (by rfl) CC.m CC.k CC.b .nil pass0 (pa_cons (pv 0) (pa_cons (pv 4) (pa_cons (pv 2) pa_nil)))) pa_nil)))) (pss_one (ps_if (pt_cmpR op_gt (pe_callB call_len_seq (by rfl) m_len PySem.boot_len (pa_cons (pv 5) pa_nil)) pe_int (nomark _)) (pss_one (ps_expr (pe_bm PySem.F.plainAttrs_list PySem.F.slot_list_append PySem.F.type_list_append mt_append (pv 3) (pa_cons (pe_call CM.g hr (by rfl) CM.m CM.k CM.b .nil pass0 (pa_cons (pe_ix ix_tup (pv 4) pe_int (fun _ _ => rfl)) (pa_cons (pe_lc (own := [("one", 6)]) (g := gName 6) (tt := tYes) rfl sc_cip.nd (pi_tup (pv 5)) (blkOk_by (N := n_cip) (sc := defScope s_cip) (by decide +kernel)) (fun _ _ _ _ _ => pg_name (i := 6) sc_cip.nd rfl (Or.inl rfl)) (fun _ _ _ _ _ => pts_nil) (fun _ _ _ _ _ => (pe_call CI.g hr (by rfl) CI.m CI.k CI.b .nil pass0 (pa_cons (pv 0) (pa_cons (pv 6) (pa_cons (pv 2) pa_nil)))))) pa_nil))) pa_nil)))) (pss_one (ps_expr (pe_bm PySem.F.plainAttrs_list PySem.F.slot_list_append PySem.F.type_list_append mt_append (pv 3) (pa_cons (pv 4) pa_nil))))))))))
      (pss_one (ps_ret (pe_callTy call_tuple_of (by rfl) m_tuple (by decide +kernel) (pa_cons (pv 3) pa_nil)))))), ?_⟩
    have sml : ∀ n : Nat, n ≤ 10000 → n < sizeLine := fun n h => Nat.lt_of_le_of_lt h (by decide)
    refine ⟨Nat.zero_le _, fun L nL => ?_⟩
    obtain ⟨yL, hL⟩ := nw (o := .lst []) nL
    have hl : us.length = ws.length := by have := hU.len; rw [List.length_map] at this; exact this
    obtain ⟨nfr, ntk⟩ := hF.ne nL
    have rafr : b = false → ra ≠ fr := fun eb z => by
      subst eb
      have hR : H ra = some (.lst us) := hR
      obtain ⟨dx, fs', kvs', e1, _⟩ := hF
      rw [z, e1] at hR; cases hR
    have raL : b = false → ra ≠ L := fun eb => by
      subst eb
      have hR : H ra = some (.lst us) := hR
      exact ne_of_none hR nL
    have hR0 := hR.ex yL (fun _ => by simp)
    have hF0 := hF.nil yL
    have hP0 := hP.ex yL
    have hU0 := hU.ex yL
    have hT0 := yL.t _ hT
    generalize hH0 : upd H L (.lst []) = H0 at yL hL hR0 hF0 hP0 hU0 hT0 ⊢
    refine for_row (b := b) (a := ra) (xs := us) (fun Q h => ⟨.ref ra, rfl, h⟩) (fun i σ H2 => ∃ (y4 y5 y6 : Option V) (vs' : List V) (ds : List PyData) (ks : List Nat) (g' : Nat), σ = [some (.ref p), some (.ref ra), some (.ref fr), some (.ref L), y4, y5, y6] ∧
        H2 L = some (.lst vs') ∧ TpAll K H2 vs' ds ∧ All2 (CnW (Cn (n + 1))) ds ks ∧ ks.sum = szR sz 1 (ws.take i) ∧ ds.length = i ∧ FrH CF H2 fr tk g' ∧ g' ≤ g + 6 * szR sz 1 (ws.take i) ∧ i ≤ ws.length ∧ Ex [L, fr] H0 H2) ?_ ?_ ?_ ?_
    · exact ⟨_, _, _, [], [], [], g, rfl, hL, .nil, .nil, rfl, rfl, hF0, by omega, Nat.zero_le _, .refl⟩
    · rintro i σ H2 _ ⟨_, _, _, _, _, _, _, _, _, _, _, _, _, _, _, _, x2⟩
      exact hR0.ex x2 fun eb => by simp [raL eb, rafr eb]
    · rintro i xv σ H2 hx ⟨y4, y5, y6, vs', ds, ks, g', rfl, k1, k2, k3, k4, k5, hF2, k6, hi, x2⟩
      obtain ⟨d, hd, td⟩ := hU0.get hx
      rw [List.getElem?_map] at hd
      cases hw : ws[i]? with
      | none => rw [hw] at hd; cases hd
      | some wd =>
      rw [hw] at hd
      cases hd
      have hi' : i < ws.length := (List.getElem?_eq_some_iff.mp hw).1
      have hc := hW wd (List.mem_of_getElem? hw)
      have td2 := td.ex x2
      have et : szR sz 1 (ws.take (i + 1)) = szR sz 1 (ws.take i) + szW sz 1 wd := by
        rw [List.take_add_one, hw, szR_app]; show _ + (szW sz 1 wd + 0) = _; rw [Nat.add_zero]
      have etot : szR sz 1 (ws.take (i + 1)) ≤ szR sz 1 ws := by
        have := szR_app sz 1 (ws.take (i + 1)) (ws.drop (i + 1))
        rw [List.take_append_drop] at this; omega
      have lv := k2.len
      refine ⟨xv, rfl, xv, wd.d, rfl, td2, fw_w wd, fun H3 u x3 tu => ?_⟩
      have td3 := td2.ex x3
      have k13 := x3.lst k1
      have hF3 := hF2.nil x3
      cases wd with
      | p w0 =>
        obtain ⟨k0, ps, ed, b1, b2, b3, b4⟩ := head_p w0
        rw [show (Wo.p w0).d = w0.d from rfl, inn_p] at tu
        have td3' : Tp K H3 xv w0.d := td3
        rw [show (Wo.p w0).d = w0.d from rfl, ed] at td3
        cases tu with
        | tup hu hau =>
        cases hau
        rename_i ua
        cases td3 with
        | tup hs3 ha3 =>
          rename_i ax xs3
          cases ha3 with
          | cons a1 a2 =>
            cases a1
            refine ⟨.ref ax, rfl, ax, _, 0, _, rfl, rfl, hs3, atN (j := 0) rfl, rfl, _, rfl, ?_⟩
            by_cases ec : k0 = ("call" : Str)
            · refine itD (congrArg V.str ec) ?_
              obtain ⟨a, as, gs, rfl⟩ := b2.mp ec
              have hc' : CallOk T n (.call a as gs) := hc
              obtain ⟨j, ej⟩ : ∃ j, n = j + 1 := by
                obtain ⟨i0, _, h0, _⟩ := hc'
                exact ⟨n - 1, by omega⟩
              have ew : szW sz 1 (.p (.call a as gs)) = sz a := rfl
              rw [ew] at et
              refine ⟨.ref L, rfl, .inl ⟨rfl, _, .of k13⟩, .ref p, rfl, .ref ax, rfl, .ref fr, rfl, ?_⟩
              rw [hC j ej]
              refine ⟨p, q0, xs, rv, main, .ref ax, a, as, gs, fr, tk, g', rfl, (hP0.ex x2).ex x3, td3', hc', x3.t _ (x2.t _ hT0), hF3, by omega, fun H4 u4 d4 g4 x4 tu4 c4 hF4 lg4 => ?_⟩
              have k14 := x4.lst k13 (by simpa using nfr.symm)
              refine ⟨L, _, _, rfl, rfl, k14, sml _ (by omega), ?_⟩
              obtain ⟨z6, h6⟩ := pw (o := .lst (vs' ++ [u4])) k14
              refine ⟨_, _, _, _, ds ++ [d4], ks ++ [sz a], g4, rfl, h6, ((((k2.ex x3).ex x4).app (.cons tu4 .nil)).ex z6), k3.app (.cons c4 .nil), by rw [List.sum_append, k4, et]; simp, by rw [List.length_append, k5]; rfl, hF4.ex z6 (by simpa using nfr) (by simpa using ntk), by omega, hi', ?_⟩
              exact ((x2.trans x3.nil).trans (x4.mono fun b hb => by simp at hb; simp [hb])).trans (z6.mono fun b hb => by simp at hb; simp [hb])
            · refine itN (fun z => ec (V.str.inj z)) ?_
              have ew : szW sz 1 (.p w0) = 1 := by
                show szP sz 1 w0 = 1
                cases w0 <;> first | rfl | exact absurd (b2.mpr ⟨_, _, _, rfl⟩) ec
              rw [ew] at et
              refine ⟨.ref ua, rfl, ua, [], rfl, .inr hu, _, _, rfl, rfl, _, rfl, itN (by simp) ?_⟩
              refine ⟨.ref L, rfl, .inl ⟨rfl, _, .of k13⟩, .ref ax, rfl, L, _, _, rfl, rfl, k13, sml _ (by omega), ?_⟩
              obtain ⟨z6, h6⟩ := pw (o := .lst (vs' ++ [.ref ax])) k13
              refine ⟨_, _, _, _, ds ++ [w0.d], ks ++ [1], g', rfl, h6, (((k2.ex x3).app (.cons td3' .nil)).ex z6), k3.app (.cons (cnw_p w0) .nil), by rw [List.sum_append, k4, et]; simp, by rw [List.length_append, k5]; rfl, hF3.ex z6 (by simpa using nfr) (by simpa using ntk), by omega, hi', ?_⟩
              exact (x2.trans x3.nil).trans (z6.mono fun b hb => by simp at hb; simp [hb])
      | r ch rs =>
        obtain ⟨f1', f2', f3', f4'⟩ := hc
        obtain ⟨pd, ed⟩ := head_r ch rs
        obtain ⟨n1, n2, n3⟩ := kd_ne ch
        rw [inn_r f3'] at tu
        rw [ed] at td3
        cases tu with
        | tup hu hau =>
        rename_i ua us3
        cases td3 with
        | tup hs3 ha3 =>
          rename_i ax xs3
          cases ha3 with
          | cons a1 a2 =>
            cases a1
            refine ⟨.ref ax, rfl, ax, _, 0, _, rfl, rfl, hs3, atN (j := 0) rfl, rfl, _, rfl, itN (fun z => n2 (V.str.inj z)) ?_⟩
            have l3 := hau.len
            rw [List.length_map] at l3
            have pos := List.length_pos_iff.mpr f1'
            refine ⟨.ref ua, rfl, ua, us3, rfl, .inr hu, _, _, rfl, rfl, _, rfl, itD (by show (0 : Int) < (us3.length : Nat); omega) ?_⟩
            refine ⟨.ref L, rfl, .inl ⟨rfl, _, .of k13⟩, .ref ax, rfl, ax, _, 0, _, rfl, rfl, hs3, atN (j := 0) rfl, .ref ua, rfl, ua, rfl, ⟨us3, hu⟩, fun L2 nL2 => ?_⟩
            refine lc_data (K := K) (walk_tup (K := K) (a := ua) (xs := us3)) (ds := rs.map rD) (xs := []) (fun _ _ => True) nL2 (by simp) (by rw [List.length_map]; exact l3) (sml _ (by omega)) (fun i H4 x4 _ => x4.seqT hu) (fun _ _ => trivial) (fun _ _ _ _ _ _ _ => trivial)
              (fun i d yv H4 H4' R N hd x4 _ hy hR => ?_) (fun H5 acc x5 hL2 tA _ => ?_)
            · obtain ⟨r1, r2⟩ := hy
              subst r1
              obtain ⟨d0, hd0, td0⟩ := hau.get r2
              rw [List.getElem?_map] at hd0 hd
              cases hr' : rs[i]? with
              | none => rw [hr'] at hd0; cases hd0
              | some r =>
                rw [hr'] at hd0 hd
                cases hd0; cases hd
                obtain ⟨g1, g2⟩ := f4' r (List.mem_of_getElem? hr')
                refine ⟨rfl, tyes_if ?_⟩
                exact ⟨.ref p, rfl, yv, rfl, .ref fr, rfl, .ref p, yv, .ref fr, r, rfl, td0.ex x4, fun w hw => noC_of (g2 w hw), by omega, fun H5 u5 x5 tu5 => hR _ _ x5 tu5 trivial⟩
            · have k15 := x5.lst k13
              refine ⟨kdR ch, L2, acc, _, rfl, hL2, tA, (by simpa using f1'), fun v6 H6 x6 tv6 => ?_⟩
              have k16 := x6.lst k15
              refine ⟨L, _, _, rfl, rfl, k16, sml _ (by omega), ?_⟩
              obtain ⟨z7, h7⟩ := pw (o := .lst (vs' ++ [v6])) k16
              rw [show mdW (kdR ch) (rs.map rD) = (Wo.r ch rs).d from md_r f3'] at tv6
              have x56 := (x3.trans x5).trans x6
              refine ⟨_, _, _, _, ds ++ [(Wo.r ch rs).d], ks ++ [szW sz 1 (.r ch rs)], g', rfl, h7, (((k2.ex x56).app (.cons tv6 .nil)).ex z7), k3.app (.cons (cnw_r n f3' (by omega) fun r hr w hw => noC_of ((f4' r hr).2 w hw)) .nil), by rw [List.sum_append, k4, et]; simp, by rw [List.length_append, k5]; rfl, (hF2.nil x56).ex z7 (by simpa using nfr) (by simpa using ntk), by omega, hi', ?_⟩
              exact (x2.trans x56.nil).trans (z7.mono fun b hb => by simp at hb; simp [hb])
    · rintro σ H2 ⟨y4, y5, y6, vs', ds, ks, g', rfl, k1, k2, k3, k4, k5, hF2, k6, hi, x2⟩
      rw [hl, List.take_length] at k4 k6
      refine ⟨.ref L, rfl, L, _, rfl, .inl ⟨.of k1, fun t nt => ?_⟩⟩
      obtain ⟨xt, ht⟩ := nw (o := .tup vs') nt
      refine q _ _ (.tuple ds) g' ((Ex.own nL yL.nil x2).trans xt.nil) (.tup (.of ht) (k2.ex xt)) ⟨ds, ks, rfl, k3, k4.symm⟩ (hF2.nil xt) k6
end
end K41

set_option maxHeartbeats 8000000
namespace K41
open PySem PySem.Spec PyProof.Rows L2 Kk RZ
theorem okp_len {D : Dm} {w : Pw} (h6 : D.boxes.length = 6) (h : OkP D w) : w.bx.length ≤ 40 := by
  cases w with
  | drop bs => have := K41.sub_len h.1 h6; exact Nat.le_trans this (by decide)
  | call a xs ys =>
    have h1 := K41.sub_len h.2.1 h6
    have h2 := K41.sub_len h.2.2 h6
    show (xs ++ ys).length ≤ 40
    rw [List.length_append]; omega
  | _ => show _ ≤ 40; first | exact (by decide) | (simp [Pw.bx])
theorem okp_bx {D : Dm} {w : Pw} (h : OkP D w) : ∀ b ∈ w.bx, b ∈ D.boxes := by
  cases w with
  | tell b => intro z hz; rw [List.mem_singleton.mp hz]; exact h
  | wipe b => intro z hz; rw [List.mem_singleton.mp hz]; exact h
  | copy a b =>
    intro z hz
    rcases List.mem_cons.mp hz with e | e
    · rw [e]; exact h.1
    · rw [List.mem_singleton.mp e]; exact h.2
  | drop bs => exact fun z hz => sub_mem h.1 z hz
  | call a xs ys =>
    intro z hz
    rcases List.mem_append.mp hz with m | m
    · exact sub_mem h.2.1 z m
    · exact sub_mem h.2.2 z m
  | _ => intro z hz; cases hz
/-- a def's words are right for its names -/
theorem fok_of {D : Dm} {t : TD} {B : List Str} (hD : DfO D t.x) (hW : ∀ w ∈ t.ws, OkW D w) (hB : ∀ z, InB t.x z → z ∈ B) : ∀ w ∈ t.ws, FOk B 1 w := by
  have hb : ∀ w ∈ t.ws, ∀ b ∈ w.bx, b ∈ B ∧ Qs b := fun w hw b hb => by
    have i : InB t.x b := .inl (bx_in hW hw hb)
    exact ⟨hB b i, hD.dq.b b (hD.inb i)⟩
  intro w hw
  have o := hW w hw
  have f := hb w hw
  cases w with
  | p w => exact ⟨f, okp_len hD.six o⟩
  | r ch rs =>
    obtain ⟨h1, h2, h3, h4⟩ := o
    refine ⟨rfl, h1, h2, h3, fun r hr => ⟨by have := (h4 r hr).1; omega, fun w hw' => ⟨fun b hb => f b (List.mem_flatMap.mpr ⟨r, hr, List.mem_flatMap.mpr ⟨w, hw', hb⟩⟩), okp_len hD.six ((h4 r hr).2 w hw')⟩⟩⟩
section
variable {P : Program} {w : World} {K : PySem.W.Frag} {mg : Str → Option Value} {base : Heap}
abbrev s_call : Stmt := topS 36
abbrev n_call : List Str := ["program", "word", "fresh", "one", "names", "words", "param", "arg"]
theorem sc_call : FnScope n_call ["program", "word", "fresh"] (defScope s_call) := ⟨rfl, rfl, rfl, by decide +kernel, rfl, by decide +kernel, by decide +kernel⟩
theorem ok_call {f f1 f2 f3 f4 f5 f6 CF Tg : Addr} {T : List TD} {sz : Str → Nat} {n : Nat} {fd d1 d2 d3 d4 d5 d6 : FuncData} {k : Nat} {main : List PyData} (F : Fun K "call_in_place" "call_in_place" s_call f fd)
    (C_def_of : Cl P w K mg base k "def_of" ["program", "name"] (spDefOf K) f1 d1) (C_fresh_names : Cl P w K mg base k "fresh_names" ["one", "fresh"] (spFNames K CF Tg) f2 d2) (C_fresh_box : Cl P w K mg base k "fresh_box" ["box", "names"] spFBox f3 d3)
    (C_fresh_row : Cl P w K mg base k "fresh_row" ["row", "names", "ending", "loops"] (spFRow K 1) f4 d4) (C_going_back : Cl P w K mg base k "going_back" ["one", "names", "gets"] (spBack K) f5 d5) (C_cip : Cl P w K mg base k "calls_in_place" ["program", "row", "fresh"] (spCip K CF Tg T sz n) f6 d6)
    (hT : TOk T sz) (m_zip : mg "zip" = none) : FnOk P w K mg base CX0 (k + 1) f fd ["program", "word", "fresh"] (spCall K CF Tg T sz (n + 1)) := by
  refine F.ok sc_call (fun vs H Q E h => ?_) (fun cdv A outer s H vs Q E hr h => ?_)
  · obtain ⟨p, q0, xs, rv, main, v, a, as, gs, fr, tk, g, rfl, _⟩ := h; rfl
  · obtain ⟨p, q0, xs, rv, main, v, a, as, gs, fr, tk, g, rfl, hP, hv, hC, hTg, hF, hg, q⟩ := h
    refine ⟨_, (pss_cons (ps_set (i := 3) sc_call.nd rfl (.inl rfl) (pe_call C_def_of.g hr (by rfl) C_def_of.m C_def_of.k C_def_of.b .nil pass0 (pa_cons (pv 0) (pa_cons (pe_ix ix_tup (pv 1) pe_int (fun _ _ => rfl)) pa_nil))))
      (pss_cons (ps_set (i := 4) sc_call.nd rfl (.inr rfl) (pe_call C_fresh_names.g hr (by rfl) C_fresh_names.m C_fresh_names.k C_fresh_names.b .nil pass0 (pa_cons (pv 3) (pa_cons (pv 2) pa_nil))))
      (pss_cons (ps_setLc (i := 5) (own := [("param", 6), ("arg", 7)]) (g := gTup K 2 (gCons (gName 6) (gCons (gName 7) gNil))) (tt := tYes) rfl sc_call.nd rfl rfl (sw_true rfl rfl rfl (by decide +kernel)) (pi_zipA (by rfl) m_zip (pa_cons (pe_ix ix_tup (pv 3) pe_int (fun _ _ => rfl)) (pa_cons (pe_ix ix_tup (pv 1) pe_int (fun _ _ => rfl)) pa_nil))) (blkOk_by (N := n_call) (sc := defScope s_call) (by decide +kernel)) (fun _ _ _ _ _ => pg_tupK (K := K) rfl rfl (pgs_cons (pg_name (i := 6) sc_call.nd rfl (Or.inl rfl)) (pgs_cons (pg_name (i := 7) sc_call.nd rfl (Or.inl rfl)) pgs_nil))) (fun _ _ _ _ _ => pts_nil) (fun _ _ _ _ _ => (pe_tup (pa_cons pe_str (pa_cons (pe_call C_fresh_box.g hr (by rfl) C_fresh_box.m C_fresh_box.k C_fresh_box.b .nil pass0 (pa_cons (pv 6) (pa_cons (pv 4) pa_nil))) (pa_cons (pv 7) pa_nil))))))
      (pss_cons (ps_expr (pe_bm PySem.F.plainAttrs_list PySem.F.slot_list_extend PySem.F.type_list_extend mt_extend (pv 5) (pa_cons (pe_lc (own := [("arg", 7)]) (g := gName 7) (tt := tYes) rfl sc_call.nd (pi_tup (pe_ix ix_tup (pv 1) pe_int (fun _ _ => rfl))) (blkOk_by (N := n_call) (sc := defScope s_call) (by decide +kernel)) (fun _ _ _ _ _ => pg_name (i := 7) sc_call.nd rfl (Or.inl rfl)) (fun _ _ _ _ _ => pts_nil) (fun _ _ _ _ _ => (pe_tup (pa_cons pe_str (pa_cons (pv 7) pa_nil))))) pa_nil)))
      (pss_cons (ps_expr (pe_bm PySem.F.plainAttrs_list PySem.F.slot_list_extend PySem.F.type_list_extend mt_extT (pv 5) (pa_cons (pe_call C_fresh_row.g hr (by rfl) C_fresh_row.m C_fresh_row.k C_fresh_row.b .nil pass0 (pa_cons (pe_op op_catA (pe_ix ix_tup (pv 3) pe_int (fun _ _ => rfl)) (pe_tup (pa_cons (pe_tup (pa_cons pe_str pa_nil)) pa_nil))) (pa_cons (pv 4) (pa_cons (pe_call C_going_back.g hr (by rfl) C_going_back.m C_going_back.k C_going_back.b .nil pass0 (pa_cons (pv 3) (pa_cons (pv 4) (pa_cons (pe_ix ix_tup (pv 1) pe_int (fun _ _ => rfl)) pa_nil)))) (pa_cons pe_int pa_nil))))) pa_nil)))
      (pss_one (ps_ret (pe_tup (pa_cons pe_str (pa_cons (pe_call C_cip.g hr (by rfl) C_cip.m C_cip.k C_cip.b .nil pass0 (pa_cons (pv 0) (pa_cons (pv 5) (pa_cons (pv 2) pa_nil)))) pa_nil)))))))))), ?_⟩
    have sml : ∀ n : Nat, n ≤ 100000 → n < sizeLine := fun n h => Nat.lt_of_le_of_lt h (by decide)
    obtain ⟨i, t, hi, ht, ea, la, lg, qa, qg⟩ := hC
    obtain ⟨D, hD, hW, lw, hCW, esz⟩ := hT.df i t ht
    rw [ea] at esz
    have hdx : (T.map TD.x)[i]? = some t.x := by rw [List.getElem?_map, ht]; rfl
    obtain ⟨u, hu⟩ : ∃ u, xs[i]? = some u := by
      have l1 := hP.d.len
      rw [List.length_map] at l1
      have : i < xs.length := by rw [l1]; exact (List.getElem?_eq_some_iff.mp hdx).1
      exact ⟨_, List.getElem?_eq_getElem this⟩
    obtain ⟨x, o, pa, pr, r, hx, rfl, e1, e2, e3, e4⟩ := hP.parts hu
    rw [hdx] at hx
    cases hx
    have hV : DfV K H o t.x := ⟨pa, pr, r, e1, e2, e3, e4⟩
    have lx4 := hD.lx
    have ly4 := hD.ly
    have lx4' : t.xs.length ≤ 4 := lx4
    have ly4' : t.ys.length ≤ 4 := ly4
    -- the word
    obtain ⟨wv, aa, ag, rfl, s0, s1, s2⟩ : ∃ wv aa ag, v = .ref wv ∧ SqT K H wv [.str (Str.ofString "call"), .str a, .ref aa, .ref ag] ∧ SqT K H aa (as.map V.str) ∧ SqT K H ag (gs.map V.str) := by
      cases hv with
      | tup hs ha =>
        cases ha with
        | cons a1 r1 =>
          cases a1
          cases r1 with
          | cons a2 r2 =>
            cases a2
            cases r2 with
            | cons a3 r3 =>
              cases r3 with
              | cons a4 r4 =>
                cases r4
                cases a3 with
                | tup s1 t1 =>
                  cases a4 with
                  | tup s2 t2 =>
                    rw [strs_of t1] at s1
                    rw [strs_of t2] at s2
                    exact ⟨_, _, _, rfl, hs, s1, s2⟩
    refine ⟨.ref p, rfl, .ref wv, rfl, wv, _, 1, .str a, rfl, rfl, s0, rfl, p, q0, _, main, xs, rv, a, rfl, hP, .inl ⟨i, t.x, .ref o, hdx, hu, ea, fun j y hj hy e => ?_, ?_⟩⟩
    · rw [List.getElem?_map] at hy
      cases hty : T[j]? with
      | none => rw [hty] at hy; cases hy
      | some t' =>
        rw [hty] at hy
        cases hy
        have := hT.nd j i t' t hty ht (by rw [ea]; exact e)
        omega
    refine ⟨.ref o, rfl, .ref fr, rfl, o, fr, tk, g, t.x, D, rfl, hTg, hF, by omega, hV, hD, fun H1 na φ B g1 x1 nna hN hB hF1 lg1 => ?_⟩
    have nfr : na ≠ fr := fun z => by rw [z] at nna; exact hF.some nna
    -- the copies
    refine ⟨.ref o, rfl, o, _, 1, .ref pa, rfl, rfl, x1.seqT e1, rfl, .ref wv, rfl, wv, _, 2, .ref aa, rfl, rfl, x1.seqT s0, rfl, pa, aa, t.xs.map V.str, as.map V.str, rfl, .inr ⟨x1.seqT e2, x1.seqT s1, fun L nL => ?_⟩⟩
    refine lc_data (K := K) (walk_zipT (xs := t.xs.map V.str) (ys := as.map V.str) (n := t.xs.length) (by simp; omega)) (ds := (((t.xs.map φ).zip as).map fun q => Pw.copy q.1 q.2).map Pw.d) (xs := []) (fun _ _ => True) nL (by simp) (by simp; omega) (sml _ (by omega)) (fun i H4 x4 _ => ⟨x4.seqT (x1.seqT e2), x4.seqT (x1.seqT s1)⟩) (fun _ _ => trivial) (fun _ _ _ _ _ _ _ => trivial)
      (fun i d xv H4 H4' R N hd x4 _ hy hR => ?_) (fun H2 acc2 x2 hL2 tA2 _ => ?_)
    · obtain ⟨Tt, xa, za, r1, nT, r2, r3, r4⟩ := hy
      subst r1
      subst r2
      have r3 : (t.xs.map V.str)[i]? = some xa := r3
      have r4 : (as.map V.str)[i]? = some za := r4
      rw [List.getElem?_map] at r3 r4
      rw [List.map_map, List.getElem?_map] at hd
      cases c1 : t.xs[i]? with
      | none => rw [c1] at r3; cases r3
      | some g1' =>
        cases c2 : as[i]? with
        | none => rw [c2] at r4; cases r4
        | some g2' =>
          rw [c1] at r3; rw [c2] at r4
          cases r3; cases r4
          have hz : ((t.xs.map φ).zip as)[i]? = some (φ g1', g2') := List.getElem?_zip_eq_some.mpr ⟨by rw [List.getElem?_map, c1]; rfl, c2⟩
          rw [hz] at hd
          cases hd
          have iz : InB t.x g1' := .inr (.inl (List.mem_of_getElem? c1))
          obtain ⟨yT, hTt⟩ := nw (o := .tup [V.str g1', .str g2']) nT
          refine ⟨Tt, [.str g1', .str g2'], rfl, .of hTt, rfl, _, _, rfl, _, _, rfl, rfl, rfl, tyes_if ?_⟩
          refine ⟨.str g1', rfl, .ref na, rfl, g1', na, φ, B, rfl, hN.nil (x4.trans yT), hB _ iz, hD.dq.b _ (hD.inb iz), fun H5 x5 => ?_⟩
          refine ⟨.str g2', rfl, (by show 3 ≤ sizeLine; decide), fun t nt => ?_⟩
          obtain ⟨xt, ht⟩ := nw (o := .tup [V.str (Str.ofString "copy"), .str (φ g1'), .str g2']) nt
          exact hR _ _ ((yT.trans x5).trans xt) (.tup (.of ht) (.cons (.str _) (.cons (.str _) (.cons (.str _) .nil)))) trivial
    -- the wipes
    have x02 := x1.trans x2.nil
    refine ⟨.ref L, rfl, .inl ⟨rfl, _, .of hL2⟩, .ref wv, rfl, wv, _, 2, .ref aa, rfl, rfl, x02.seqT s0, rfl, aa, rfl, ⟨_, x02.seqT s1⟩, fun L2 nL2 => ?_⟩
    refine lc_data (K := K) (walk_tup (K := K) (a := aa) (xs := as.map V.str)) (ds := (as.map Pw.wipe).map Pw.d) (xs := []) (fun _ _ => True) nL2 (by simp) (by simp) (by rw [List.length_map]; exact sml _ (by omega)) (fun i H4 x4 _ => x4.seqT (x02.seqT s1)) (fun _ _ => trivial) (fun _ _ _ _ _ _ _ => trivial)
      (fun i d xv H4 H4' R N hd x4 _ hy hR => ?_) (fun H3 acc3 x3 hL3 tA3 _ => ?_)
    · obtain ⟨r1, r2⟩ := hy
      subst r1
      rw [List.getElem?_map] at r2
      rw [List.map_map, List.getElem?_map] at hd
      cases hb' : as[i]? with
      | none => rw [hb'] at r2; cases r2
      | some z =>
        rw [hb'] at r2 hd
        cases r2
        cases hd
        refine ⟨rfl, tyes_if ?_⟩
        refine ⟨.str z, rfl, (by show 2 ≤ sizeLine; decide), fun t nt => ?_⟩
        obtain ⟨xt, ht⟩ := nw (o := .tup [V.str (Str.ofString "wipe"), .str z]) nt
        exact hR _ _ xt (.tup (.of ht) (.cons (.str _) (.cons (.str _) .nil))) trivial
    have hL23 := x3.lst hL2
    have l2 := tA2.len
    have l3 := tA3.len
    simp only [List.length_map, List.length_zip] at l2 l3
    refine ⟨L, L2, acc2, acc3, rfl, rfl, hL23, hL3, Nat.le_of_lt (sml _ (by omega)), ?_⟩
    obtain ⟨z4, hL4⟩ := pw (o := .lst (acc2 ++ acc3)) hL23
    have nL1 : H1 L = none := nL
    have nLfr := (hF1.ne nL)
    have x14 : Ex [] H1 (upd H3 L (.lst (acc2 ++ acc3))) := Ex.own nL1 (x2.trans x3) z4
    have t4 := ((tA2.ex x3).app tA3).ex z4
    generalize upd H3 L (.lst (acc2 ++ acc3)) = H4 at z4 hL4 x14 t4 ⊢
    have x04 := x1.trans x14.nil
    rw [← List.map_append] at t4
    -- the row
    obtain ⟨_, _, r', q1, q2, q3, q4⟩ := hV.ex x04
    refine ⟨.ref L, rfl, .inl ⟨rfl, _, .of hL4⟩, .ref o, rfl, o, _, 3, r', rfl, rfl, q1, rfl, ?_⟩
    cases q4 with
    | tup hrs hra =>
    rename_i ra rus
    refine ⟨(by show 1 ≤ sizeLine; decide), fun t1 nt1 => ⟨(by show 1 ≤ sizeLine; decide), fun t2 nt2 => ?_⟩⟩
    obtain ⟨xt1, ht1⟩ := nw (o := .tup [V.str (Str.ofString "back")]) nt1
    obtain ⟨xt2, ht2⟩ := nw (o := .tup [V.ref t1]) nt2
    have x45 := xt1.trans xt2
    have lru := hra.len
    have lru2 : t.x.ws.length = t.ws.length := List.length_map _
    refine cat_any (x45.seqT hrs) (.of ht2) (by rw [lru, lru2]; exact Nat.le_of_lt (sml _ (by simp; omega))) fun rp H6 x6 hrp => ?_
    have x46 := x45.trans x6
    have x06 := x04.trans x46.nil
    have tRow : Tp K H6 (.ref rp) (rowD (t.ws ++ [.p .back])) := by
      refine .tup hrp ?_
      rw [List.map_append]
      exact (hra.ex x46).app (.cons (.tup ((xt2.trans x6).seqT (.of ht1)) (.cons (.str _) .nil)) .nil)
    refine ⟨.ref na, rfl, .ref o, rfl, .ref na, rfl, .ref wv, rfl, wv, _, 3, .ref ag, rfl, rfl, x06.seqT s0, rfl, o, na, ag, t.x, D, φ, B, gs, rfl, hV.ex x06, hD, hN.nil (x14.trans x46), hB, x06.seqT s2, lg, fun H7 ep eus E0 nep x7 hep tep sE lE lE9 => ?_⟩
    have x47 := x46.trans x7
    have fok := fok_of hD hW hB
    refine ⟨.ref rp, t.ws ++ [.p .back], na, ep, 1, φ, B, eus, E0, rfl, tRow.ex x7, hN.nil (x14.trans x47), hep, tep, lE9, fun w hw => ?_, by rw [List.length_append]; simp; omega, fun H8 u8 x8 tu8 => ?_⟩
    · rcases List.mem_append.mp hw with m | m
      · exact fok w m
      · rw [List.mem_singleton.mp m]; exact (show BxOk B .back from ⟨fun b hb => (by cases hb), (by decide)⟩)
    have x48 := x47.trans x8
    cases tu8 with
    | tup h8 ha8 =>
    rename_i a8 us8
    have hL8 := x48.lst hL4
    have l4 := t4.len
    have l8 := ha8.len
    have lf := fR_len (φ := φ) (E := E0) (l := 1) lE9 (t.ws ++ [.p .back])
    rw [List.length_append] at lf
    rw [List.length_map] at l4 l8
    simp only [List.length_append, List.length_map, List.length_zip, List.length_cons, List.length_nil] at l4 lf
    refine ⟨L, a8, acc2 ++ acc3, us8, rfl, rfl, hL8, h8, Nat.le_of_lt (sml _ (by rw [List.length_append]; omega)), ?_⟩
    obtain ⟨z9, hL9⟩ := pw (o := .lst ((acc2 ++ acc3) ++ us8)) hL8
    have x19 : Ex [] H1 (upd H8 L (.lst ((acc2 ++ acc3) ++ us8))) := Ex.own nL1 (x14.trans x48) z9
    have t9 := ((t4.ex x48).app ha8).ex z9
    generalize upd H8 L (.lst ((acc2 ++ acc3) ++ us8)) = H9 at z9 hL9 x19 t9 ⊢
    have x09 := x1.trans x19.nil
    -- all words
    have eds : (((t.xs.map φ).zip as).map (fun q => Pw.copy q.1 q.2) ++ as.map Pw.wipe).map Pw.d ++ (fR φ E0 1 (t.ws ++ [.p .back])).map Wo.d = (((((t.xs.map φ).zip as).map (fun q => Pw.copy q.1 q.2) ++ as.map Pw.wipe).map Wo.p) ++ fR φ E0 1 (t.ws ++ [.p .back])).map Wo.d := by
      simp only [List.map_append, List.map_map]; rfl
    rw [eds] at t9
    have sC : ∀ w ∈ ((t.xs.map φ).zip as).map (fun q => Pw.copy q.1 q.2) ++ as.map Pw.wipe, Sim w := fun w hw => by
      rcases List.mem_append.mp hw with m | m
      · obtain ⟨q, _, rfl⟩ := List.mem_map.mp m; trivial
      · obtain ⟨q, _, rfl⟩ := List.mem_map.mp m; trivial
    have lC : (((t.xs.map φ).zip as).map (fun q => Pw.copy q.1 q.2) ++ as.map Pw.wipe).length = 2 * t.xs.length := by
      simp only [List.length_append, List.length_map, List.length_zip]; omega
    generalize ((t.xs.map φ).zip as).map (fun q => Pw.copy q.1 q.2) ++ as.map Pw.wipe = C0 at t9 sC lC
    have bkE : E0.length + 1 = bk t.x := lE
    have esum : 1 + szR sz 1 (C0.map Wo.p ++ fR φ E0 1 (t.ws ++ [.p .back])) = sz a := by
      rw [szR_app, szR_p, szQ_sim sC, lC, szR_f sE, szR_app, bkE, esz]
      show 1 + (2 * t.xs.length + (szR sz (bk t.x) t.ws + (bk t.x + 0))) = _
      omega
    have cws : ∀ w ∈ C0.map Wo.p ++ fR φ E0 1 (t.ws ++ [.p .back]), CW T n w := fun w hw => by
      rcases List.mem_append.mp hw with m | m
      · obtain ⟨w0, hw0, rfl⟩ := List.mem_map.mp m
        exact callOk_sim (sC w0 hw0)
      · refine CW.up (by omega) (cw_f sE lE9 (n := i) (ws := t.ws ++ [.p .back]) (fun w hw => ?_) (fun w hw ch rs e r hr => ?_) (fun w hw b hb => ?_) w m)
        · rcases List.mem_append.mp hw with m | m
          · exact hCW w m
          · rw [List.mem_singleton.mp m]; exact True.intro
        · rcases List.mem_append.mp hw with m | m
          · have := hW w m
            rw [e] at this
            exact (this.2.2.2 r hr).1
          · rw [List.mem_singleton.mp m] at e; cases e
        · rcases List.mem_append.mp hw with m | m
          · obtain ⟨kvs, _, hk⟩ := hN
            exact (hk b (hB b (.inl (bx_in hW m hb)))).2
          · rw [List.mem_singleton.mp m] at hb; cases hb
    refine ⟨.ref p, rfl, .ref L, rfl, .ref fr, rfl, p, q0, xs, rv, main, L, false, _, _, fr, tk, g1, rfl, hP.ex x09, hL9, t9, cws, ?_, x09.t _ hTg, hF1.nil x19, by omega, fun H10 u r10 g10 x10 tu c10 hF10 lg10 => ?_⟩
    · rw [List.length_append, List.length_map, lC]; omega
    · refine ⟨(by show 2 ≤ sizeLine; decide), fun tt ntt => ?_⟩
      obtain ⟨xt, htt⟩ := nw (o := .tup [V.str (Str.ofString "loop"), u]) ntt
      refine q _ _ (.tuple [.str (Str.ofString "loop"), r10]) g10 ((x09.trans x10).trans xt.nil) (.tup (.of htt) (.cons (.str _) (.cons (tu.ex xt) .nil))) ?_ (hF10.nil xt) (by omega)
      rw [← esum]
      exact .inr (.inr ⟨r10, _, rfl, c10, rfl⟩)
end
end K41

set_option maxHeartbeats 8000000
namespace K41
open PySem PySem.Spec PyProof.Rows L2 Kk RZ
/-! how many words -/
def wz (sz : Str → Nat) (b : Nat) : PyData → Nat
  | .tuple (.str k :: r) => if k = ("call" : Str) then sz ((tStr r).headD k) else if k = ("back" : Str) then b else 1
  | _ => 1
theorem wz_p (sz : Str → Nat) (b : Nat) (w : Pw) : wz sz b w.d = szP sz b w := by
  have e : ∀ (k : Str) (r : List PyData), wz sz b (.tuple (.str k :: r)) = if k = ("call" : Str) then sz ((tStr r).headD k) else if k = ("back" : Str) then b else 1 := fun _ _ => rfl
  cases w with
  | call a xs ys =>
    show wz sz b (.tuple (.str (Str.ofString "call") :: [.str a, tsL xs, tsL ys])) = sz a
    rw [e, if_pos rfl]; rfl
  | back =>
    show wz sz b (.tuple (.str (Str.ofString "back") :: [])) = b
    rw [e, if_neg (by decide +kernel), if_pos rfl]
  | tell z => show wz sz b (.tuple (.str (Str.ofString "tell") :: [.str z])) = 1; rw [e, if_neg (by decide +kernel), if_neg (by decide +kernel)]
  | wipe z => show wz sz b (.tuple (.str (Str.ofString "wipe") :: [.str z])) = 1; rw [e, if_neg (by decide +kernel), if_neg (by decide +kernel)]
  | copy y z => show wz sz b (.tuple (.str (Str.ofString "copy") :: [.str y, .str z])) = 1; rw [e, if_neg (by decide +kernel), if_neg (by decide +kernel)]
  | drop zs => show wz sz b (.tuple (.str (Str.ofString "drop") :: [tsL zs])) = 1; rw [e, if_neg (by decide +kernel), if_neg (by decide +kernel)]
  | out n => show wz sz b (.tuple (.str (Str.ofString "out") :: [.int (n : Nat)])) = 1; rw [e, if_neg (by decide +kernel), if_neg (by decide +kernel)]
theorem wz_r (sz : Str → Nat) (b : Nat) (ch : Bool) (rs : List (List Pw)) : wz sz b (Wo.r ch rs).d = 1 := by
  have e : ∀ (k : Str) (r : List PyData), wz sz b (.tuple (.str k :: r)) = if k = ("call" : Str) then sz ((tStr r).headD k) else if k = ("back" : Str) then b else 1 := fun _ _ => rfl
  obtain ⟨p, ed⟩ := head_r ch rs
  obtain ⟨n1, n2, _⟩ := kd_ne ch
  rw [ed, e, if_neg n2, if_neg n1]
def rz (sz : Str → Nat) (b : Nat) (r : PyData) : Nat := ((itm r).map (wz sz b)).sum
def rzs (sz : Str → Nat) (b : Nat) (fs : List PyData) : Nat := (fs.map (rz sz b)).sum
theorem rzs_cons (sz : Str → Nat) (b : Nat) (r : PyData) (fs : List PyData) : rzs sz b (r :: fs) = rz sz b r + rzs sz b fs := by unfold rzs; rw [List.map_cons, List.sum_cons]
theorem rzs_app (sz : Str → Nat) (b : Nat) (x y : List PyData) : rzs sz b (x ++ y) = rzs sz b x + rzs sz b y := by unfold rzs; rw [List.map_append, List.sum_append]
theorem rzs_perm {sz : Str → Nat} {b : Nat} {x y : List PyData} (h : x.Perm y) : rzs sz b x = rzs sz b y := by
  induction h with
  | nil => rfl
  | cons x _ ih => rw [rzs_cons, rzs_cons, ih]
  | swap x y l => simp only [rzs_cons]; omega
  | trans _ _ p q => exact p.trans q
theorem rz_rD (sz : Str → Nat) (b : Nat) (r : List Pw) : rz sz b (rD r) = szQ sz b r := by
  show ((r.map Pw.d).map (wz sz b)).sum = (r.map (szP sz b)).sum
  rw [List.map_map]
  congr 1
  exact List.map_congr_left fun w _ => wz_p sz b w
theorem rzs_all {D : Dm} {sz : Str → Nat} {b : Nat} : ∀ {ws : List Wo}, (∀ w ∈ ws, OkW D w) → rz sz b (rowD ws) + rzs sz b ((ws.map Wo.d).flatMap fun w => (innD w).flatMap (allR 0)) = szR sz b ws
  | [], _ => rfl
  | w :: ws, h => by
    have ih := rzs_all (sz := sz) (b := b) fun w hw => h w (List.mem_cons_of_mem _ hw)
    have e1 : rz sz b (rowD (w :: ws)) = wz sz b w.d + rz sz b (rowD ws) := by
      show (((w :: ws).map Wo.d).map (wz sz b)).sum = _
      rw [List.map_cons, List.map_cons, List.sum_cons]; rfl
    have e2 : ((w :: ws).map Wo.d).flatMap (fun w => (innD w).flatMap (allR 0)) = (innD w.d).flatMap (allR 0) ++ (ws.map Wo.d).flatMap (fun w => (innD w).flatMap (allR 0)) := by rw [List.map_cons, List.flatMap_cons]
    rw [e1, e2, rzs_app, szR_cons, ← ih]
    have e3 : wz sz b w.d + rzs sz b ((innD w.d).flatMap (allR 0)) = szW sz b w := by
      have o := h w List.mem_cons_self
      rw [inn_w o]
      cases w with
      | p w =>
        show wz sz b w.d + 0 = szP sz b w
        rw [wz_p]; rfl
      | r ch rs =>
        rw [wz_r]
        show 1 + rzs sz b ((rs.map rD).flatMap fun r => [r]) = 1 + (rs.map (szQ sz b)).sum
        congr 1
        have : (rs.map rD).flatMap (fun r => [r]) = rs.map rD := by simp
        rw [this]
        unfold rzs
        rw [List.map_map]
        congr 1
        exact List.map_congr_left fun r _ => rz_rD sz b r
    omega
def szR0 (sz : Str → Nat) (b : Nat) (vs : List Wo) : Nat := ((vs.map Wo.d).map (wz sz b)).sum
/-- names that may be called -/
def CallIn (S : List Str) : Wo → Prop
  | .p (.call a _ _) => a ∈ S
  | .p _ => True
  | .r _ rs => ∀ r ∈ rs, ∀ w ∈ r, NoC w
theorem in_all {D : Dm} {S : List Str} {ws : List Wo} (h : ∀ w ∈ ws, OkW D w) (hc : ∀ w ∈ ws, CallIn S w) {r : PyData} (hr : r ∈ allR 1 (rowD ws)) : ∃ vs : List Wo, r = rowD vs ∧ ∀ w ∈ vs, CallIn S w := by
  have e : allR 1 (rowD ws) = rowD ws :: (ws.map Wo.d).flatMap fun w => (innD w).flatMap (allR 0) := rfl
  rw [e] at hr
  rcases List.mem_cons.mp hr with rfl | hr
  · exact ⟨ws, rfl, hc⟩
  · obtain ⟨d, hd, hb2⟩ := List.mem_flatMap.mp hr
    obtain ⟨w, hw, rfl⟩ := List.mem_map.mp hd
    rw [inn_w (h _ hw)] at hb2
    cases w with
    | p w => cases hb2
    | r ch rs =>
      obtain ⟨r', hr', hb3⟩ := List.mem_flatMap.mp hb2
      obtain ⟨q, hq, rfl⟩ := List.mem_map.mp hr'
      rw [List.mem_singleton.mp (show r ∈ [rD q] from hb3)]
      refine ⟨q.map Wo.p, (rD_p q).symm, fun w hw2 => ?_⟩
      obtain ⟨w0, h0, rfl⟩ := List.mem_map.mp hw2
      have := hc _ hw q hq w0 h0
      cases w0 with
      | call a xs ys => exact this.elim
      | _ => exact True.intro
def SzD (H : Hp) (d : Addr) (sz : Str → Nat) (S : List Str) : Prop := ∃ kvs : List (Key × V), H d = some (.dK kvs) ∧ ∀ a ∈ S, valV kvs (.inr a) = some (.int (sz a : Nat))
theorem SzD.nil {H H' : Hp} {d : Addr} {sz : Str → Nat} {S : List Str} (h : SzD H d sz S) (e : Ex [] H H') : SzD H' d sz S := by
  obtain ⟨kvs, h1, h2⟩ := h
  exact ⟨kvs, e.a d _ (by simp) h1 (fun _ z => by cases z), h2⟩
section
variable {P : Program} {w : World} {K : PySem.W.Frag} {mg : Str → Option Value} {base : Heap}
abbrev s_size_of : Stmt := topS 38
abbrev n_size_of : List Str := ["row", "sizes", "back", "size", "inner", "word"]
theorem sc_size_of : FnScope n_size_of ["row", "sizes", "back"] (defScope s_size_of) := ⟨rfl, rfl, rfl, by decide +kernel, rfl, by decide +kernel, by decide +kernel⟩
def spSizeOf (K : PySem.W.Frag) : Sp := fun vs H Q _ => ∃ (v : V) (d : Addr) (b : Nat) (ws : List Wo) (D : Dm) (sz : Str → Nat) (S : List Str), vs = [v, .ref d, .int (b : Nat)] ∧ Tp K H v (rowD ws) ∧ (∀ w ∈ ws, OkW D w) ∧ ws.length ≤ 320 ∧ (∀ w ∈ ws, CallIn S w) ∧ SzD H d sz S ∧
  ∀ H', Ex [] H H' → Q (.int (szR sz b ws : Nat)) H'
theorem ok_size_of {f f1 : Addr} {fd d1 : FuncData} {k : Nat} (F : Fun K "size_of" "size_of" s_size_of f fd) (CA : Cl P w K mg base k "all_rows" ["row"] (spAllRows K) f1 d1) : FnOk P w K mg base CX0 (k + 1) f fd ["row", "sizes", "back"] (spSizeOf K) := by
  refine F.ok sc_size_of (fun vs H Q E h => ?_) (fun cdv A outer s H vs Q E hr h => ?_)
  · obtain ⟨v, d, b, ws, D, sz, S, rfl, _⟩ := h; rfl
  · obtain ⟨v, d, b, ws, D, sz, S, rfl, hT, hW, lw, hC, hS, q⟩ := h
    refine ⟨_, (pss_cons (ps_set (i := 3) sc_size_of.nd rfl (.inl rfl) pe_int)
      (pss_cons (ps_for PassesOwn.never rfl (pi_list (pe_call CA.g hr (by rfl) CA.m CA.k CA.b .nil pass0 (pa_cons (pv 0) pa_nil))) (pg_name (i := 4) sc_size_of.nd rfl (.inl rfl)) (pss_one (ps_for PassesOwn.never rfl (pi_tup (pv 4)) (pg_name (i := 5) sc_size_of.nd rfl (.inl rfl)) (pss_one (ps_if (pt_cmpR op_eq (pe_ix ix_tup (pv 5) pe_int (fun _ _ => rfl)) pe_str (nomark _)) (pss_one (ps_aug (i := 3) sc_size_of.nd rfl (.inl rfl) (pe_dget (un1 hr) (pv 1) (pe_ix ix_tup (pv 5) pe_int (fun _ _ => rfl)) (fun _ _ => rfl)) ip_add)) (pss_one (ps_aug (i := 3) sc_size_of.nd rfl (.inl rfl) (pe_ifExp (pt_cmpR op_eq (pe_ix ix_tup (pv 5) pe_int (fun _ _ => rfl)) pe_str (nomark _)) (pv 2) pe_int) ip_add)))))))
      (pss_one (ps_ret (pv 3))))), ?_⟩
    refine ⟨v, rfl, v, rowD ws, D, 1, 9, rfl, hT, rw_of lw hW, Nat.le_refl _, fun H1 p us fs np x1 hp tF pf => ⟨p, rfl, ⟨us, .of hp⟩, ?_⟩⟩
    have lf := tF.len
    refine for_list (a := p) (xs := us) (fun i σ H2 => ∃ (y4 y5 : Option V), σ = [some v, some (.ref d), some (.int (b : Nat)), some (.int (rzs sz b (fs.take i) : Nat)), y4, y5] ∧ i ≤ fs.length ∧ H2 = H1) ⟨_, _, rfl, Nat.zero_le _, rfl⟩ (fun i σ H2 _ ⟨_, _, _, _, e⟩ => by rw [e]; exact .of hp) (fun i xv σ H2 hx ⟨y4, y5, e1, hi, e2⟩ => ?_) (fun σ H2 ⟨y4, y5, e1, hi, e2⟩ => ?_)
    · subst e1
      subst e2
      obtain ⟨r, hr', tr⟩ := tF.get hx
      obtain ⟨vs, rfl, hvc⟩ := in_all hW hC (pf.mem_iff.mp (List.mem_of_getElem? hr'))
      have hi' : i < fs.length := (List.getElem?_eq_some_iff.mp hr').1
      cases tr with
      | tup hs ha =>
        rename_i a ts2
        have lt := ha.len
        rw [List.length_map] at lt
        have eti : rzs sz b (fs.take (i + 1)) = rzs sz b (fs.take i) + rz sz b (rowD vs) := by
          rw [List.take_add_one, hr', rzs_app]; show _ + (rz sz b (rowD vs) + 0) = _; rw [Nat.add_zero]
        refine ⟨.ref a, rfl, a, rfl, ⟨ts2, hs⟩, for_tup (a := a) (xs := ts2) (fun j σ H3 => ∃ y5 : Option V, σ = [some v, some (.ref d), some (.int (b : Nat)), some (.int ((rzs sz b (fs.take i) + szR0 sz b (vs.take j) : Nat) : Int)), some (.ref a), y5] ∧ j ≤ vs.length ∧ H3 = H2) ?_ ?_ ?_ ?_⟩
        · exact ⟨_, rfl, Nat.zero_le _, rfl⟩
        · rintro j σ H3 _ ⟨_, _, _, e⟩
          rw [e]; exact hs
        · rintro j xv σ H3 hx ⟨y5, rfl, hj, rfl⟩
          obtain ⟨dd, hdd, tdd⟩ := ha.get hx
          rw [List.getElem?_map] at hdd
          cases hw : vs[j]? with
          | none => rw [hw] at hdd; cases hdd
          | some wd =>
          rw [hw] at hdd
          cases hdd
          have hj' : j < vs.length := (List.getElem?_eq_some_iff.mp hw).1
          have cin := hvc wd (List.mem_of_getElem? hw)
          have et : szR0 sz b (vs.take (j + 1)) = szR0 sz b (vs.take j) + wz sz b wd.d := by
            rw [List.take_add_one, hw]
            unfold szR0
            rw [List.map_append, List.map_append, List.sum_append]; simp
          cases wd with
          | p w0 =>
            rw [show (Wo.p w0).d = w0.d from rfl, wz_p] at et
            obtain ⟨k0, ps, ed, b1, b2, b3, b4⟩ := head_p w0
            rw [show (Wo.p w0).d = w0.d from rfl] at tdd
            have tdd' := tdd
            rw [ed] at tdd
            cases tdd with
            | tup hs3 ha3 =>
              rename_i ax xs3
              cases ha3 with
              | cons a1 a2 =>
                cases a1
                refine ⟨_, rfl, ax, _, 0, _, rfl, rfl, hs3, atN (j := 0) rfl, rfl, _, rfl, ?_⟩
                by_cases ec : k0 = ("call" : Str)
                · refine itD (congrArg V.str ec) ?_
                  obtain ⟨a0, as, gs, rfl⟩ := b2.mp ec
                  obtain ⟨kvs, g1, g2⟩ := hS.nil x1
                  have ga := g2 a0 cin
                  cases tdd' with
                  | tup hs4 ha4 =>
                    cases ha4 with
                    | cons c1 c2 =>
                      cases c1
                      cases c2 with
                      | cons c3 c4 =>
                        cases c3
                        refine ⟨_, rfl, .ref d, rfl, .ref ax, rfl, ax, _, 1, _, rfl, rfl, hs4, atN (j := 1) rfl, d, .int (sz a0 : Nat), rfl, ?_, _, _, rfl, rfl, ?_⟩
                        · have := DGet.k (k := .inr a0) g1
                          rw [ga] at this; exact this
                        · refine ⟨some (.ref ax), ?_, hj', rfl⟩
                          rw [et]
                          show _ = [some v, some (.ref d), some (.int (b : Nat)), some (.int ((rzs sz b (fs.take i) + (szR0 sz b (vs.take j) + sz a0) : Nat) : Int)), some (.ref a), some (.ref ax)]
                          rw [← Nat.add_assoc]; rfl
                · refine itN (fun z => ec (V.str.inj z)) ?_
                  by_cases eb : w0 = .back
                  · subst eb
                    refine ⟨_, rfl, .ref ax, rfl, ax, _, 0, _, rfl, rfl, hs3, atN (j := 0) rfl, rfl, _, rfl, itD (congrArg V.str (b1.mpr rfl)) ?_⟩
                    refine ⟨.int (b : Nat), rfl, _, _, rfl, rfl, some (.ref ax), ?_, hj', rfl⟩
                    rw [et]
                    show _ = [some v, some (.ref d), some (.int (b : Nat)), some (.int ((rzs sz b (fs.take i) + (szR0 sz b (vs.take j) + b) : Nat) : Int)), some (.ref a), some (.ref ax)]
                    rw [← Nat.add_assoc]; rfl
                  · refine ⟨_, rfl, .ref ax, rfl, ax, _, 0, _, rfl, rfl, hs3, atN (j := 0) rfl, rfl, _, rfl, itN (fun z => eb (b1.mp (V.str.inj z))) ?_⟩
                    have e1 : szP sz b w0 = 1 := by cases w0 <;> first | rfl | exact absurd rfl eb | exact absurd (b2.mpr ⟨_, _, _, rfl⟩) ec
                    refine ⟨_, _, rfl, rfl, some (.ref ax), ?_, hj', rfl⟩
                    rw [et, e1]
                    show _ = [some v, some (.ref d), some (.int (b : Nat)), some (.int ((rzs sz b (fs.take i) + (szR0 sz b (vs.take j) + 1) : Nat) : Int)), some (.ref a), some (.ref ax)]
                    rw [← Nat.add_assoc]; rfl
          | r ch rs =>
            rw [wz_r] at et
            obtain ⟨pd, ed⟩ := head_r ch rs
            obtain ⟨n1, n2, n3⟩ := kd_ne ch
            rw [ed] at tdd
            cases tdd with
            | tup hs3 ha3 =>
              rename_i ax xs3
              cases ha3 with
              | cons a1 a2 =>
                cases a1
                refine ⟨_, rfl, ax, _, 0, _, rfl, rfl, hs3, atN (j := 0) rfl, rfl, _, rfl, itN (fun z => n2 (V.str.inj z)) ?_⟩
                refine ⟨_, rfl, .ref ax, rfl, ax, _, 0, _, rfl, rfl, hs3, atN (j := 0) rfl, rfl, _, rfl, itN (fun z => n1 (V.str.inj z)) ?_⟩
                refine ⟨_, _, rfl, rfl, some (.ref ax), ?_, hj', rfl⟩
                rw [et]
                show _ = [some v, some (.ref d), some (.int (b : Nat)), some (.int ((rzs sz b (fs.take i) + (szR0 sz b (vs.take j) + 1) : Nat) : Int)), some (.ref a), some (.ref ax)]
                rw [← Nat.add_assoc]; rfl
        · rintro σ H3 ⟨y5, rfl, hj, rfl⟩
          refine ⟨some (.ref a), y5, ?_, hi', rfl⟩
          rw [lt, List.take_length, eti]; rfl
    · subst e1
      subst e2
      rw [lf, List.take_length]
      have e3 : rzs sz b fs = szR sz b ws := by
        rw [rzs_perm pf]
        have e : allR 1 (rowD ws) = rowD ws :: (ws.map Wo.d).flatMap fun w => (innD w).flatMap (allR 0) := rfl
        rw [e, rzs_cons]
        exact rzs_all hW
      rw [e3]
      exact ⟨_, rfl, q _ x1⟩
end
end K41

set_option maxHeartbeats 8000000
namespace K41
open PySem PySem.Spec PyProof.Rows L2 Kk RZ
def nmsT (T : List TD) (n : Nat) : List Str := (T.take n).map TD.a
theorem callIn_of {T : List TD} {n : Nat} {w : Wo} (h : CW T n w) : CallIn (nmsT T n) w := by
  cases w with
  | p w =>
    cases w with
    | call a xs ys =>
      obtain ⟨i, t, h1, h2, h3, _⟩ := h
      refine List.mem_map.mpr ⟨t, ?_, h3⟩
      refine List.mem_iff_getElem?.mpr ⟨i, ?_⟩
      rw [List.getElem?_take, if_pos h1]; exact h2
    | _ => exact True.intro
  | r ch rs => exact fun r hr w hw => noC_of ((h.2.2.2 r hr).2 w hw)
section
variable {P : Program} {w : World} {K : PySem.W.Frag} {mg : Str → Option Value} {base : Heap}
abbrev s_sizes_of : Stmt := topS 39
abbrev n_sizes_of : List Str := ["program", "sizes", "one", "name", "params", "results", "row", "back"]
theorem sc_sizes_of : FnScope n_sizes_of ["program"] (defScope s_sizes_of) := ⟨rfl, rfl, rfl, by decide +kernel, rfl, by decide +kernel, by decide +kernel⟩
def spSizesOf (K : PySem.W.Frag) (T : List TD) (sz : Str → Nat) : Sp := fun vs H Q _ => ∃ (p q : Addr) (xs : List V) (rv : V) (main : List PyData), vs = [.ref p] ∧ Pg K H p q (T.map TD.x) main xs rv ∧ T.length ≤ 6 ∧
  ∀ H' d, Ex [] H H' → SzD H' d sz (nmsT T T.length) → Q (.ref d) H'
theorem ok_sizes_of {f f1 f2 : Addr} {T : List TD} {sz : Str → Nat} {fd d1 d2 : FuncData} {k : Nat} (F : Fun K "sizes_of" "sizes_of" s_sizes_of f fd) (C_others_of : Cl P w K mg base k "others_of" ["one"] (spOthers K) f1 d1) (C_size_of : Cl P w K mg base k "size_of" ["row", "sizes", "back"] (spSizeOf K) f2 d2)
    (hT : TOk T sz) (m_len : mg "len" = none) (m_min : mg "min" = none) : FnOk P w K mg base CX0 (k + 1) f fd ["program"] (spSizesOf K T sz) := by
  refine F.ok sc_sizes_of (fun vs H Q E h => ?_) (fun cdv A outer s H vs Q E hr h => ?_)
  · obtain ⟨p, q0, xs, rv, main, rfl, _⟩ := h; rfl
  · obtain ⟨p, q0, xs, rv, main, rfl, hP, lT, q⟩ := h
    refine ⟨_, (pss_cons (ps_set (i := 1) sc_sizes_of.nd rfl (.inl rfl) pe_dnewK)
      (pss_cons (ps_for PassesOwn.never rfl (pi_tup (pe_ix ix_tup (pv 0) pe_int (fun _ _ => rfl))) (pg_name (i := 2) sc_sizes_of.nd rfl (.inl rfl)) (pss_cons (ps_asg (pv 2) (pg_tup rfl (pgs_cons (pg_name (i := 3) sc_sizes_of.nd rfl (.inl rfl)) (pgs_cons (pg_name (i := 4) sc_sizes_of.nd rfl (.inl rfl)) (pgs_cons (pg_name (i := 5) sc_sizes_of.nd rfl (.inl rfl)) (pgs_cons (pg_name (i := 6) sc_sizes_of.nd rfl (.inl rfl)) pgs_nil))))))
      (pss_cons (ps_set (i := 7) sc_sizes_of.nd rfl (.inl rfl) (pe_op op_add (pe_op op_add (pe_op op_mul pe_int (pe_callB call_len_seq (by rfl) m_len PySem.boot_len (pa_cons (pv 5) pa_nil))) (pe_callB (call_min2 rfl) (by rfl) m_min (by decide +kernel) (pa_cons pe_int (pa_cons (pe_callB call_len_seq (by rfl) m_len PySem.boot_len (pa_cons (pe_call C_others_of.g hr (by rfl) C_others_of.m C_others_of.k C_others_of.b .nil pass0 (pa_cons (pv 2) pa_nil)) pa_nil)) pa_nil)))) pe_int))
      (pss_one (ps_dput (un1 hr) (pv 1) (pv 3) (pe_op op_add (pe_op op_add (pe_op op_add pe_int (pe_op op_mul pe_int (pe_callB call_len_seq (by rfl) m_len PySem.boot_len (pa_cons (pv 4) pa_nil)))) (pe_call C_size_of.g hr (by rfl) C_size_of.m C_size_of.k C_size_of.b .nil pass0 (pa_cons (pv 6) (pa_cons (pv 1) (pa_cons (pv 7) pa_nil))))) (pv 7)) rfl)))))
      (pss_one (ps_ret (pv 1))))), ?_⟩
    refine fun d nd => ?_
    obtain ⟨yd, hd⟩ := nw (o := .dK []) nd
    have hP0 := hP.ex yd
    have lxs := hP.d.len
    rw [List.length_map] at lxs
    refine ⟨.ref p, rfl, p, _, 0, _, rfl, rfl, hP0.s, rfl, q0, rfl, ⟨xs, hP0.t⟩, for_tup (a := q0) (xs := xs) (fun i σ H3 => ∃ (y2 y3 y4 y5 y6 y7 : Option V) (kvs : List (Key × V)), σ = [some (.ref p), some (.ref d), y2, y3, y4, y5, y6, y7] ∧
      H3 d = some (.dK kvs) ∧ (∀ (j : Nat) (t : TD), j < i → T[j]? = some t → valV kvs (.inr t.a) = some (.int (sz t.a : Nat))) ∧ kvs.length ≤ i ∧ i ≤ T.length ∧ Ex [d] (upd H d (.dK [])) H3) ?_ ?_ ?_ ?_⟩
    · exact ⟨_, _, _, _, _, _, [], rfl, hd, fun j t hj => absurd hj (by omega), by simp, Nat.zero_le _, .refl⟩
    · rintro i σ H3 _ ⟨_, _, _, _, _, _, _, _, _, _, _, _, x3⟩
      exact x3.seqT hP0.t
    · rintro i u σ H3 hu ⟨y2, y3, y4, y5, y6, y7, kvs, rfl, h1, h2, h3, h4, x3⟩
      obtain ⟨x, o, pa, pr, r, hx, rfl, e1, e2, e3, e4⟩ := (hP0.ex x3).parts hu
      rw [List.getElem?_map] at hx
      cases ht : T[i]? with
      | none => rw [ht] at hx; cases hx
      | some t =>
      rw [ht] at hx
      cases hx
      have hi : i < T.length := (List.getElem?_eq_some_iff.mp ht).1
      obtain ⟨D, hD, hW, lw, hCW, esz⟩ := hT.df i t ht
      have hV : DfV K H3 o t.x := ⟨pa, pr, r, e1, e2, e3, e4⟩
      refine ⟨.ref o, rfl, o, _, rfl, e1, rfl, _, _, rfl, _, _, rfl, _, _, rfl, _, _, rfl, rfl, ?_⟩
      refine ⟨.ref pr, rfl, pr, _, rfl, .inr e3, _, _, rfl, rfl, .inl (by decide), .ref o, rfl, o, t.x, D, rfl, hV, hD, fun H4 zp zs nzp x4 hzp lz mz oz => ?_⟩
      refine ⟨zp, _, rfl, .inl (.of hzp), _, _, rfl, _, _, rfl, rfl, _, _, rfl, rfl, ?_⟩
      have eb : (2 * (((t.x.ys.map V.str).length : Nat) : Int) + (if (((zs.map V.str).length : Nat) : Int) < 1 then (((zs.map V.str).length : Nat) : Int) else 1)) + 1 = ((bk t.x : Nat) : Int) := by
        unfold bk
        rw [List.length_map, List.length_map]
        by_cases ez : zs = []
        · have no : ¬ Oth t.x := fun z => oz.mpr z ez
          rw [if_neg no, ez]
          simp
        · have yo := oz.mp ez
          have := List.length_pos_iff.mpr ez
          rw [if_pos yo, if_neg (by omega)]
          omega
      have h14 := x4.a d _ (by simp) h1 (fun _ z => by cases z)
      refine ⟨.ref pa, rfl, pa, _, rfl, .inr (x4.seqT e2), _, _, rfl, rfl, .inl (by decide), _, _, rfl, rfl, r, rfl, .ref d, rfl, .int ((2 * (((t.x.ys.map V.str).length : Nat) : Int) + (if (((zs.map V.str).length : Nat) : Int) < 1 then (((zs.map V.str).length : Nat) : Int) else 1)) + 1), rfl, r, d, bk t.x, t.ws, D, sz, nmsT T i, congrArg (fun z => [r, V.ref d, V.int z]) eb, e4.ex x4, hW, by omega, fun w hw => callIn_of (hCW w hw), ⟨kvs, h14, fun a ha => ?_⟩, fun H5 x5 => ?_⟩
      · obtain ⟨t', ht', rfl⟩ := List.mem_map.mp ha
        obtain ⟨j, hj⟩ := List.mem_iff_getElem?.mp ht'
        rw [List.getElem?_take] at hj
        split at hj
        · rename_i hji
          exact h2 j t' hji hj
        · cases hj
      · have h15 := x5.a d _ (by simp) h14 (fun _ z => by cases z)
        refine ⟨_, _, rfl, rfl, .int ((2 * (((t.x.ys.map V.str).length : Nat) : Int) + (if (((zs.map V.str).length : Nat) : Int) < 1 then (((zs.map V.str).length : Nat) : Int) else 1)) + 1), rfl, _, _, rfl, rfl, .ref d, rfl, .str t.a, rfl, d, _, rfl, .k (k := .inr t.a) h15 (Nat.lt_of_le_of_lt (show kvs.length ≤ 6 by omega) (by decide)), ?_⟩
        have ev : (1 + 2 * (((t.x.xs.map V.str).length : Nat) : Int) + ((szR sz (bk t.x) t.ws : Nat) : Int)) + ((2 * (((t.x.ys.map V.str).length : Nat) : Int) + (if (((zs.map V.str).length : Nat) : Int) < 1 then (((zs.map V.str).length : Nat) : Int) else 1)) + 1) = ((sz t.a : Nat) : Int) := by
          rw [eb, esz, List.length_map]
          show (1 + 2 * ((t.xs.length : Nat) : Int) + _) + _ = _
          omega
        have xp : Ex [d] H5 (upd H5 d (.dK (putK kvs (.inr t.a) (.int ((1 + 2 * (((t.x.xs.map V.str).length : Nat) : Int) + ((szR sz (bk t.x) t.ws : Nat) : Int)) + ((2 * (((t.x.ys.map V.str).length : Nat) : Int) + (if (((zs.map V.str).length : Nat) : Int) < 1 then (((zs.map V.str).length : Nat) : Int) else 1)) + 1)))))) := .put h15 nt_dK (by simp)
        refine ⟨_, _, _, _, _, _, _, rfl, upd_same, fun j t' hj ht' => ?_, ?_, by omega, (x3.trans ((x4.trans x5).nil)).trans xp⟩
        · rw [valV_put]
          by_cases ej : j = i
          · subst ej
            rw [ht] at ht'
            cases ht'
            rw [if_pos rfl]
            exact congrArg (fun z => some (V.int z)) ev
          · rw [if_neg fun e => ej (hT.nd j i t' t ht' ht (Sum.inr.inj e))]
            exact h2 j t' (by omega) ht'
        · exact Nat.le_trans (length_putK kvs (.inr t.a) _) (by omega)
    · rintro σ H3 ⟨y2, y3, y4, y5, y6, y7, kvs, rfl, h1, h2, h3, h4, x3⟩
      refine ⟨.ref d, rfl, q H3 d (Ex.own nd yd x3) ⟨kvs, h1, fun a ha => ?_⟩⟩
      obtain ⟨t', ht', rfl⟩ := List.mem_map.mp ha
      obtain ⟨j, hj⟩ := List.mem_iff_getElem?.mp ht'
      rw [List.take_length] at hj
      have hjl := (List.getElem?_eq_some_iff.mp hj).1
      refine h2 j t' ?_ hj
      rw [lxs, List.length_map]; exact hjl
/-- what the written part says of TooLong -/
structure TlT (K : PySem.W.Frag) (mg : Str → Option Value) (CT : Addr) : Prop where
  gC : mg "TooLong" = some (.ref CT)
  x : PySem.W.excIn K CT [.type "ValueError", .type "Exception", .type "BaseException", .type "object"] "ValueError.__new__" = true
  k : PySem.W.keepIn K (.ref CT) = true
  b : PySem.W.subIn K (.ref CT) (.type "BaseException") = some true
  t : PySem.W.typeIn K (.ref CT) = some (.type "type")
/-- Fresh(..) -/
structure MkF (P : Program) (w : World) (K : PySem.W.Frag) (mg : Str → Option Value) (base : Heap) (k : Nat) (CF f : Addr) (fd : FuncData) : Prop where
  mi : Mk K CF f
  g : FnOk P w K mg base CX0 k f fd ["self", "taken"] (spFInit CF)
  m : mg "Fresh" = some (.ref CF)
  b : Binds K fd ["self", "taken"] []
def Out (CT : Addr) (E : XK) (xs : List Addr) (H : Hp) : Prop := ∀ H', Ex xs H H' → E (.ref CT) none H'
abbrev s_in_place : Stmt := topS 40
theorem sc_in_place : FnScope ["program"] ["program"] (defScope s_in_place) := ⟨rfl, rfl, rfl, by decide +kernel, rfl, by decide +kernel, by decide +kernel⟩
def spInPlace (K : PySem.W.Frag) (CT Tg : Addr) (T : List TD) (sz : Str → Nat) : Sp := fun vs H Q E => ∃ (p q : Addr) (xs : List V) (rv : V) (ws : List Wo) (D : Dm), vs = [.ref p] ∧ Pg K H p q (T.map TD.x) (ws.map Wo.d) xs rv ∧ GxR.TabG H Tg ∧ T.length ≤ 6 ∧ DsOk D (T.map TD.x) (ws.map Wo.d) ∧
  (∀ w ∈ ws, OkW D w) ∧ ws.length ≤ 320 ∧ (∀ w ∈ ws, CW T T.length w) ∧ (300 < szR sz 1 ws → Out CT E [] H) ∧ (szR sz 1 ws ≤ 300 → ∀ H' u r, Ex [] H H' → Tp K H' u (.tuple [.tuple [], r]) → Cn (T.length + 2) r (szR sz 1 ws) → Q u H')
theorem ok_in_place {f f1 f2 f3 f4 f5 CF CT Tg : Addr} {T : List TD} {sz : Str → Nat} {fd d1 d2 d3 d4 d5 : FuncData} {k : Nat} (F : Fun K "in_place" "in_place" s_in_place f fd) (C_size_of : Cl P w K mg base (k + 1) "size_of" ["row", "sizes", "back"] (spSizeOf K) f1 d1) (C_sizes_of : Cl P w K mg base (k + 1) "sizes_of" ["program"] (spSizesOf K T sz) f2 d2)
    (C_cip : Cl P w K mg base (k + 1) "calls_in_place" ["program", "row", "fresh"] (spCip K CF Tg T sz T.length) f3 d3) (C_names_in : Cl P w K mg base (k + 1) "names_in" ["program"] (spNamesIn K) f4 d4) (MF : MkF P w K mg base k CF f5 d5) (TN : TlT K mg CT) (g_MOST_WORDS : ∃ t, mg "MOST_WORDS" = some (.int 300 t)) :
    FnOk P w K mg base (L2.CX P w) (k + 2) f fd ["program"] (spInPlace K CT Tg T sz) := by
  obtain ⟨t3, g3⟩ := g_MOST_WORDS
  refine F.okX sc_in_place (fun vs H Q E h => ?_) (fun cdv A outer s H vs Q E hr h => ?_)
  · obtain ⟨p, q0, xs, rv, ws, D, rfl, _⟩ := h; rfl
  · obtain ⟨p, q0, xs, rv, ws, D, rfl, hP, hTg, lT, hDs, hW, lw, hCW, qx, q⟩ := h
    refine ⟨_, (pss_cons (ps_if (pt_cmpR op_gt (pe_call C_size_of.g hr (by rfl) C_size_of.m C_size_of.k C_size_of.b .nil pass0 (pa_cons (pe_ix ix_tup (pv 0) pe_int (fun _ _ => rfl)) (pa_cons (pe_call C_sizes_of.g hr (by rfl) C_sizes_of.m C_sizes_of.k C_sizes_of.b .nil pass0 (pa_cons (pv 0) pa_nil)) (pa_cons pe_int pa_nil)))) (pe_glob (v := .int 300) rfl g3 ⟨_, rfl⟩) (nomark _)) (pss_one (ps_raise rfl (takes_of rfl rfl rfl rfl) (pmk_own PySem.F.excBase_ValueError TN.x TN.gC TN.k (raises_own TN.b TN.t) rfl))) pss_nil)
      (pss_one (ps_ret (pe_tup (pa_cons (pe_tup pa_nil) (pa_cons (pe_call C_cip.g hr (by rfl) C_cip.m C_cip.k C_cip.b .nil pass0 (pa_cons (pv 0) (pa_cons (pe_ix ix_tup (pv 0) pe_int (fun _ _ => rfl)) (pa_cons (pe_make MF.mi MF.g hr (by rfl) MF.m MF.b .nil pass0 (pa_cons (pe_call C_names_in.g hr (by rfl) C_names_in.m C_names_in.k C_names_in.b .nil pass0 (pa_cons (pv 0) pa_nil)) pa_nil)) pa_nil)))) pa_nil)))))), ?_⟩
    refine ⟨.ref p, rfl, p, _, 1, rv, rfl, rfl, hP.s, rfl, .ref p, rfl, p, q0, xs, rv, ws.map Wo.d, rfl, hP, lT, fun H1 d x1 hS => ?_⟩
    refine ⟨rv, d, 1, ws, D, sz, nmsT T T.length, rfl, (hP.ex x1).r, hW, lw, fun w hw => callIn_of (hCW w hw), hS, fun H2 x2 => ?_⟩
    have x02 := x1.trans x2
    refine ⟨_, _, rfl, rfl, _, rfl, ?_⟩
    by_cases big : 300 < szR sz 1 ws
    · refine itD (by show (300 : Int) < ((szR sz 1 ws : Nat) : Int); omega) ?_
      exact qx big H2 x02
    · refine itN (by show ¬ (300 : Int) < ((szR sz 1 ws : Nat) : Int); omega) ?_
      have hP2 := hP.ex x02
      refine ⟨(by show 0 ≤ sizeLine; decide), fun t nt => ?_⟩
      obtain ⟨xt, ht⟩ := nw (o := .tup []) nt
      have hP3 := hP2.ex xt
      refine ⟨.ref p, rfl, .ref p, rfl, p, _, 1, rv, rfl, rfl, hP3.s, rfl, .ref p, rfl, p, q0, _, _, xs, rv, D, rfl, hP3, hDs, fun H4 dd kvs x4 hdd hkv => ?_⟩
      intro x dx nx ndx nxd
      obtain ⟨xa, ha⟩ := nw (o := .own x) ndx
      have nx2 : (upd H4 dx (.own x)) x = none := by rw [upd_ne (fun z => nxd z.symm)]; exact nx
      obtain ⟨xb, hb⟩ := nw (o := .ins CF dx []) nx2
      have hdd2 := (xa.trans xb).a dd _ (by simp) hdd (fun _ z => by cases z)
      have xab := xa.trans xb
      generalize upd (upd H4 dx (.own x)) x (.ins CF dx []) = H5 at xb hb hdd2 xab ⊢
      refine ⟨x, dx, dd, kvs, rfl, hb, hdd2, hkv, fun H6 x6 hF6 => ⟨rfl, ?_⟩⟩
      have x46 : Ex [] H4 H6 := Ex.own nx xab x6
      have x26 := (xt.trans x4).trans x46
      have x06 := x02.trans x26
      have hP6 := hP2.ex x26
      have hr6 := hP6.r
      cases hr6 with
      | tup hs ha' =>
        rename_i ra us
        refine ⟨p, q0, xs, _, _, ra, true, us, ws, x, dd, 0, rfl, hP6, hs, ha', hCW, by omega, x06.t _ hTg, hF6, by omega, fun H7 u r g' x7 tu cn hF7 lg => ?_⟩
        refine ⟨(by show 2 ≤ sizeLine; decide), fun tt ntt => ?_⟩
        obtain ⟨xtt, htt⟩ := nw (o := .tup [.ref t, u]) ntt
        have x47 : Ex [] H4 H7 := Ex.own nx xab (x6.trans x7)
        have x07 := (x02.trans (xt.trans x4)).trans x47
        refine q (by omega) _ _ r (x07.trans xtt) (.tup (.of htt) (.cons (.tup (((x4.trans x47).trans xtt).seqT (.of ht)) .nil) (.cons (tu.ex xtt) .nil))) cn
end
end K41

set_option maxHeartbeats 8000000
namespace K41
open PySem PySem.Spec PyProof.Rows L2 Kk RZ
/-! the law's count -/
section
variable {P : Program} {w : World} {K : PySem.W.Frag} {mg : Str → Option Value} {base : Heap}
abbrev s_counted : Stmt := topS 46
abbrev n_counted : List Str := ["_law_row", "_law_many", "_law_word", "_law_one"]
theorem sc_counted : FnScope n_counted ["_law_row"] (defScope s_counted) := ⟨rfl, rfl, rfl, by decide +kernel, rfl, by decide +kernel, by decide +kernel⟩
def spCount (K : PySem.W.Frag) (d : Nat) : Sp := fun vs H Q _ => ∃ (v : V) (r : PyData) (m : Nat), vs = [v] ∧ Tp K H v r ∧ Cn d r m ∧ ∀ H', Ex [] H H' → Q (.int (m : Nat)) H'
theorem ok_counted0 {f : Addr} {fd : FuncData} {k : Nat} (F : Fun K "_law_counted" "_law_counted" s_counted f fd) : FnOk P w K mg base CX0 (k + 1) f fd ["_law_row"] (spCount K 0) := by
  refine F.ok sc_counted (fun vs H Q E h => ?_) (fun cdv A outer s H vs Q E hr h => ?_)
  · obtain ⟨v, r, m, rfl, _⟩ := h; rfl
  · obtain ⟨v, r, m, rfl, _, hc, _⟩ := h; exact hc.elim
theorem ints_of {K : PySem.W.Frag} {H : Hp} : ∀ {us : List V} {ks : List Nat}, TpAll K H us (ks.map fun k => PyData.int (k : Nat)) → us = (ks.map fun k => ((k : Nat) : Int)).map V.int
  | _, [], h => by cases h; rfl
  | _, z :: zs, h => by
    cases h with
    | cons h1 h2 => cases h1; rw [ints_of h2]; rfl
theorem sum_cast : ∀ ks : List Nat, (ks.map fun k => ((k : Nat) : Int)).sum = ((ks.sum : Nat) : Int)
  | [] => rfl
  | k :: ks => by rw [List.map_cons, List.sum_cons, List.sum_cons, sum_cast ks]; omega
theorem ok_counted {f f1 : Addr} {fd d1 : FuncData} {k d : Nat} (F : Fun K "_law_counted" "_law_counted" s_counted f fd) (CI : Cl P w K mg base k "_law_counted" ["_law_row"] (spCount K d) f1 d1) (m_len : mg "len" = none) (m_sum : mg "sum" = none) : FnOk P w K mg base CX0 (k + 1) f fd ["_law_row"] (spCount K (d + 1)) := by
  refine F.ok sc_counted (fun vs H Q E h => ?_) (fun cdv A outer s H vs Q E hr h => ?_)
  · obtain ⟨v, r, m, rfl, _⟩ := h; rfl
  · obtain ⟨v, r, m, rfl, hT, ⟨ws, ks, rfl, hks, rfl⟩, q⟩ := h
    refine ⟨_, (pss_cons (ps_set (i := 1) sc_counted.nd rfl (.inl rfl) (pe_callB call_len_seq (by rfl) m_len PySem.boot_len (pa_cons (pv 0) pa_nil)))
      (pss_cons (ps_for PassesOwn.never rfl (pi_tup (pv 0)) (pg_name (i := 2) sc_counted.nd rfl (.inl rfl)) (pss_cons (ps_if (pt_cmpR op_eq (pe_ix ix_tup (pv 2) pe_int (fun _ _ => rfl)) pe_str (nomark _)) (pss_one (ps_set (i := 1) sc_counted.nd rfl (.inl rfl) (pe_op op_add (pv 1) (pe_call CI.g hr (by rfl) CI.m CI.k CI.b .nil pass0 (pa_cons (pe_ix ix_tup (pv 2) pe_int (fun _ _ => rfl)) pa_nil))))) pss_nil)
      (pss_one (ps_if (pt_cmpR op_eq (pe_ix ix_tup (pv 2) pe_int (fun _ _ => rfl)) pe_str (nomark _)) (pss_one (ps_set (i := 1) sc_counted.nd rfl (.inl rfl) (pe_op op_add (pv 1) (pe_callB (cr_sum rfl) (by rfl) m_sum (by decide +kernel) (pa_cons (pe_lc (own := [("_law_one", 3)]) (g := gName 3) (tt := tYes) rfl sc_counted.nd (pi_tup (pe_ix ix_tup (pv 2) pe_int (fun _ _ => rfl))) (blkOk_by (N := n_counted) (sc := defScope s_counted) (by decide +kernel)) (fun _ _ _ _ _ => pg_name (i := 3) sc_counted.nd rfl (Or.inl rfl)) (fun _ _ _ _ _ => pts_nil) (fun _ _ _ _ _ => (pe_call CI.g hr (by rfl) CI.m CI.k CI.b .nil pass0 (pa_cons (pv 3) pa_nil)))) pa_nil))))) pss_nil))))
      (pss_one (ps_ret (pv 1))))), ?_⟩
    cases hT with
    | tup hs ha =>
      rename_i a xs
      have lx := ha.len
      have lk := hks.len
      refine ⟨.ref a, rfl, a, xs, rfl, .inr hs, .ref a, rfl, a, rfl, ⟨xs, hs⟩, for_tup (a := a) (xs := xs) (fun i σ H2 => ∃ (y2 y3 : Option V), σ = [some (.ref a), some (.int ((xs.length : Int) + ((ks.take i).sum : Nat) - (i : Nat))), y2, y3] ∧ i ≤ ws.length ∧ Ex [] H H2) ?_ ?_ ?_ ?_⟩
      · exact ⟨_, _, by simp; rfl, Nat.zero_le _, .refl⟩
      · rintro i σ H2 _ ⟨_, _, _, _, x2⟩
        exact x2.seqT hs
      · rintro i xv σ H2 hx ⟨y2, y3, rfl, hi, x2⟩
        obtain ⟨dw, hdw, td⟩ := ha.get hx
        have hi' : i < ws.length := (List.getElem?_eq_some_iff.mp hdw).1
        obtain ⟨kk, hkk, ck⟩ := hks.at hdw
        have et : (ks.take (i + 1)).sum = (ks.take i).sum + kk := by rw [List.take_add_one, hkk, List.sum_append]; simp
        have td2 := td.ex x2
        rcases ck with ⟨kd, ps, rfl, n1, n2, rfl⟩ | ⟨rs, ks', rfl, h2, rfl, lr⟩ | ⟨r, k', rfl, hr', rfl⟩
        · cases td2 with
          | tup hs2 ha2 =>
            rename_i ax xs2
            cases ha2 with
            | cons a1 a2 =>
              cases a1
              refine ⟨_, rfl, _, _, 0, _, rfl, rfl, hs2, atN (j := 0) rfl, rfl, _, rfl, itN (fun e => n2 (V.str.inj e)) ?_⟩
              refine ⟨_, rfl, _, _, 0, _, rfl, rfl, hs2, atN (j := 0) rfl, rfl, _, rfl, itN (fun e => n1 (V.str.inj e)) ?_⟩
              refine ⟨some (.ref ax), y3, ?_, hi', x2⟩
              rw [et]
              rw [show ((xs.length : Int) + (((ks.take i).sum + 1 : Nat) : Int) - ((i + 1 : Nat) : Int)) = (xs.length : Int) + ((ks.take i).sum : Nat) - (i : Nat) by omega]
              rfl
        · cases td2 with
          | tup hs2 ha2 =>
            rename_i ax xs2
            cases ha2 with
            | cons a1 a2 =>
              cases a1
              cases a2 with
              | cons b1 b2 =>
                cases b2
                refine ⟨_, rfl, _, _, 0, _, rfl, rfl, hs2, atN (j := 0) rfl, rfl, _, rfl, itN (fun e => absurd (V.str.inj e) (by decide +kernel)) ?_⟩
                refine ⟨_, rfl, _, _, 0, _, rfl, rfl, hs2, atN (j := 0) rfl, rfl, _, rfl, itD rfl ?_⟩
                cases b1 with
                | tup hs3 ha3 =>
                  rename_i ra us3
                  have l3 := ha3.len
                  refine ⟨_, rfl, .ref _, rfl, _, _, 1, .ref ra, rfl, rfl, hs2, atN (j := 1) rfl, ra, rfl, ⟨us3, hs3⟩, fun D1 n1 => ?_⟩
                  refine lc_data (K := K) (walk_tup (K := K) (a := ra) (xs := us3)) (ds := ks'.map fun k => PyData.int (k : Nat)) (xs := []) (fun _ _ => True) n1 (by simp) (by rw [List.length_map, l3]; exact h2.len) (Nat.lt_of_le_of_lt (by rw [l3]; exact lr) (by decide)) (fun i H4 x4 _ => x4.seqT hs3) (fun _ _ => trivial) (fun _ _ _ _ _ _ _ => trivial)
                    (fun j d yv H4 H4' R N hd x4 _ hy hR => ?_) (fun H5 acc x5 hL2 tA _ => ?_)
                  · obtain ⟨r1, r2⟩ := hy
                    subst r1
                    obtain ⟨rd, hrd, tr⟩ := ha3.get r2
                    obtain ⟨k1, hk1, ck1⟩ := h2.at hrd
                    rw [List.getElem?_map, hk1] at hd
                    cases hd
                    refine ⟨rfl, tyes_if ?_⟩
                    exact ⟨yv, rfl, yv, rd, k1, rfl, tr.ex x4, ck1, fun H6 x6 => hR _ _ x6 (.int _) trivial⟩
                  · have ea := ints_of tA
                    subst ea
                    refine ⟨D1, _, rfl, .of hL2, _, _, rfl, rfl, some (.ref ax), y3, ?_, hi', x2.trans x5⟩
                    rw [et, sum_cast]
                    rw [show ((xs.length : Int) + (((ks.take i).sum + (1 + ks'.sum) : Nat) : Int) - ((i + 1 : Nat) : Int)) = ((xs.length : Int) + ((ks.take i).sum : Nat) - (i : Nat)) + ((ks'.sum : Nat) : Int) by omega]
                    rfl
        · cases td2 with
          | tup hs2 ha2 =>
            rename_i ax xs2
            cases ha2 with
            | cons a1 a2 =>
              cases a1
              cases a2 with
              | cons b1 b2 =>
                cases b2
                refine ⟨_, rfl, _, _, 0, _, rfl, rfl, hs2, atN (j := 0) rfl, rfl, _, rfl, itD rfl ?_⟩
                refine ⟨_, rfl, .ref _, rfl, _, _, 1, _, rfl, rfl, hs2, atN (j := 1) rfl, _, r, k', rfl, b1, hr', fun H5 x5 => ?_⟩
                refine ⟨_, _, rfl, rfl, ?_⟩
                refine ⟨_, rfl, _, _, 0, _, rfl, rfl, x5.seqT hs2, atN (j := 0) rfl, rfl, _, rfl, itN (fun e => absurd (V.str.inj e) (by decide +kernel)) ?_⟩
                refine ⟨some (.ref ax), y3, ?_, hi', x2.trans x5⟩
                rw [et]
                rw [show ((xs.length : Int) + (((ks.take i).sum + (1 + k') : Nat) : Int) - ((i + 1 : Nat) : Int)) = ((xs.length : Int) + ((ks.take i).sum : Nat) - (i : Nat)) + ((k' : Nat) : Int) by omega]
                rfl
      · rintro σ H2 ⟨y2, y3, rfl, hi, x2⟩
        refine ⟨_, rfl, ?_⟩
        have e1 : ks.take xs.length = ks := by rw [lx, lk, List.take_length]
        rw [e1, show ((xs.length : Int) + ((ks.sum : Nat) : Int) - ((xs.length : Nat) : Int)) = ((ks.sum : Nat) : Int) by omega]
        exact q H2 x2
end
end K41

set_option maxHeartbeats 4000000
namespace Kk
open PySem PySem.Spec PyProof.Rows L2
/-- isinstance of a caught error that has no fields -/
theorem call_isEN {X : Cx} {a D : Addr} {cls : Value} {d : Option Addr} {oe : Obj} {pn : List (Addr × Obj)} (C : ExcC X.K D) (hz : Zc cls d oe) (hf : ∃ vs, oe.data = .fields vs) : CallR (X.suite a ((a, oe) :: pn)) (.builtin "isinstance") (fun xs H Q => cls = .ref D ∧ d = none ∧ rIsE X.K D a xs H Q) := by
  intro pins s σ H xs us Q I r h
  obtain ⟨e1, e2, h⟩ := h
  subst e1 e2
  exact call_isE C hz hf pins s σ H xs us Q I r h
/-- a def that may raise, that may be called -/
structure ClX (P : Program) (w : World) (K : PySem.W.Frag) (mg : Str → Option Value) (base : Heap) (k : Nat) (x : Str) (ps : List Str) (sp : Sp) (f : Addr) (fd : FuncData) : Prop where
  g : FnOk P w K mg base (L2.CX P w) k f fd ps sp
  k : PySem.W.keepIn K (.ref f) = true
  b : Binds K fd ps []
  m : mg x = some (.ref f)
end Kk
namespace K41
open PySem PySem.Spec PyProof.Rows L2 Kk RZ
/-! what the law is told -/
abbrev s_told : Stmt := topS 45
abbrev n_told : List Str := ["_law_program_here", "_law_told_here", "e", "_law_other"]
theorem sc_told : FnScope n_told ["_law_program_here"] (defScope s_told) := ⟨rfl, rfl, rfl, by decide +kernel, rfl, by decide +kernel, by decide +kernel⟩
/-- what the written part says of the errors, where they are caught -/
structure NaC (K : PySem.W.Frag) (mg : Str → Option Value) (CT CW C1 C2 C3 C4 C5 : Addr) : Prop where
  gT : mg "TooLong" = some (.ref CT)
  gW : mg "WipeError" = some (.ref CW)
  g1 : mg "NoAnswer" = some (.ref C1)
  g2 : mg "NoCode" = some (.ref C2)
  g3 : mg "NoRow" = some (.ref C3)
  g4 : mg "NoTurn" = some (.ref C4)
  g5 : mg "NoText" = some (.ref C5)
  gV : mg "ValueError" = none
  te : PySem.W.exmOne K (.ref CT) (.ref CW) = some true
  ex : ExcC K CT
  k0 : PySem.W.kitOne K (.ref CT) (.ref CT) = some true
  kV : PySem.W.kitOne K (.ref CT) (.type "ValueError") = some true
  k1 : PySem.W.kitOne K (.ref CT) (.ref C1) = some false
  k2 : PySem.W.kitOne K (.ref CT) (.ref C2) = some false
  k3 : PySem.W.kitOne K (.ref CT) (.ref C3) = some false
  k4 : PySem.W.kitOne K (.ref CT) (.ref C4) = some false
  k5 : PySem.W.kitOne K (.ref CT) (.ref C5) = some false
theorem iteF' {A B : Prop} (h : B) : if false = true then A else B := by rw [if_neg (by simp)]; exact h
section
variable {P : Program} {w : World} {K : PySem.W.Frag} {mg : Str → Option Value} {base : Heap}
/-- a program with these defs and this main row -/
def PrgH (K : PySem.W.Frag) (Tg : Addr) (T : List TD) (sz : Str → Nat) (H : Hp) (p : Addr) (n : Nat) : Prop := ∃ (q : Addr) (xs : List V) (rv : V) (ws : List Wo) (D : Dm), Pg K H p q (T.map TD.x) (ws.map Wo.d) xs rv ∧ GxR.TabG H Tg ∧ T.length ≤ 6 ∧ DsOk D (T.map TD.x) (ws.map Wo.d) ∧
  (∀ w ∈ ws, OkW D w) ∧ ws.length ≤ 320 ∧ (∀ w ∈ ws, CW T T.length w) ∧ szR sz 1 ws = n
def spTold (K : PySem.W.Frag) (Tg : Addr) (T : List TD) (sz : Str → Nat) : Sp := fun vs H Q _ => ∃ (p : Addr) (n : Nat), vs = [.ref p] ∧ PrgH K Tg T sz H p n ∧ (300 < n → ∀ H', Ex [] H H' → Q (.str (Str.ofString "long")) H') ∧ (n ≤ 300 → ∀ H', Ex [] H H' → Q (.int (n : Nat)) H')
theorem ok_told {f f1 f2 Tg CT CW C1 C2 C3 C4 C5 : Addr} {T : List TD} {sz : Str → Nat} {fd d1 d2 : FuncData} {k : Nat} (F : Fun K "_law_told" "_law_told" s_told f fd) (TC : NaC K mg CT CW C1 C2 C3 C4 C5) (X_ip : ClX P w K mg base k "in_place" ["program"] (spInPlace K CT Tg T sz) f1 d1) (C_ct : Cl P w K mg base k "_law_counted" ["_law_row"] (spCount K (T.length + 2)) f2 d2) (m_isinstance : mg "isinstance" = none) :
    FnOk P w K mg base CX0 (k + 1) f fd ["_law_program_here"] (spTold K Tg T sz) := by
  refine F.ok sc_told (fun vs H Q E h => ?_) (fun cdv A outer s H vs Q E hr h => ?_)
  · obtain ⟨p, n, rfl, _⟩ := h; rfl
  · obtain ⟨p, n, rfl, ⟨q0, xs, rv, ws, D, hP, hTg, lT, hDs, hW, lw, hCW, rfl⟩, qx, q⟩ := h
    refine ⟨_, (pss_cons (ps_set (i := 1) sc_told.nd rfl (.inl rfl) pe_str)
      (pss_cons (ps_try_as (i := 2) rfl rfl sc_told.nd rfl rfl ⟨rfl, by decide, .inl TC.gW⟩ takes0 (fun W pn xe tk _ => pss_one (ps_set (i := 1) sc_told.nd rfl (.inl rfl) (pe_call C_ct.g hr (by rfl) C_ct.m C_ct.k C_ct.b .nil pass0 (pa_cons (pe_ix (ix_tupK (K := K) rfl) (pe_callS X_ip.g hr (by rfl) X_ip.m X_ip.k X_ip.b (fun σ => passAt tk σ) (pa_cons (pv 0) pa_nil)) pe_int (fun _ _ => rfl)) pa_nil))))
        (fun a oe cls d pn hz hf => pss_cons (ps_set (i := 3) sc_told.nd rfl (.inl rfl) (pe_or (pe_callB (call_isEN TC.ex hz hf) (by rfl) m_isinstance (by decide +kernel) (pa_cons (pv 2) (pa_cons (pe_glob (v := .ref C1) rfl TC.g1 rfl) pa_nil))) (pe_or (pe_callB (call_isEN TC.ex hz hf) (by rfl) m_isinstance (by decide +kernel) (pa_cons (pv 2) (pa_cons (pe_glob (v := .ref C2) rfl TC.g2 rfl) pa_nil))) (pe_or (pe_callB (call_isEN TC.ex hz hf) (by rfl) m_isinstance (by decide +kernel) (pa_cons (pv 2) (pa_cons (pe_glob (v := .ref C3) rfl TC.g3 rfl) pa_nil))) (pe_one (pe_callB (call_isEN TC.ex hz hf) (by rfl) m_isinstance (by decide +kernel) (pa_cons (pv 2) (pa_cons (pe_glob (v := .ref C4) rfl TC.g4 rfl) pa_nil))))))))
          (pss_one (ps_if (PW.pt (pw_and (pt_val (pe_callB (call_isEN TC.ex hz hf) (by rfl) m_isinstance (by decide +kernel) (pa_cons (pv 2) (pa_cons (pe_glob (v := .ref CT) rfl TC.gT rfl) pa_nil)))) (pw_and (pt_val (pe_callB (call_isEN TC.ex hz hf) (by rfl) m_isinstance (by decide +kernel) (pa_cons (pv 2) (pa_cons (pe_bltn (v := .ty "ValueError") (by rfl) TC.gV (by decide +kernel) rfl) pa_nil)))) (pw_and (pt_not (pt_val (pv 3))) (pw_and1 (pt_not (pt_val (pe_callB (call_isEN TC.ex hz hf) (by rfl) m_isinstance (by decide +kernel) (pa_cons (pv 2) (pa_cons (pe_glob (v := .ref C5) rfl TC.g5 rfl) pa_nil))))))))))
            (pss_one (ps_set (i := 1) sc_told.nd rfl (.inl rfl) pe_str)) pss_nil))))
      (pss_one (ps_ret (pv 1))))), ?_⟩
    refine ⟨.ref p, rfl, p, q0, xs, rv, ws, D, rfl, hP, hTg, lT, hDs, hW, lw, hCW, fun big H1 x1 => ?_, fun sm H1 u r x1 tu cn => ?_⟩
    · refine ⟨true, TC.te, fun _ a na => ?_, fun z => Bool.noConfusion z⟩
      have isE : ∀ {c : V} {cv : Value} {b : Bool} {H : Hp} {Q : VK}, (∀ u, RelV c u → u = cv) → PySem.W.kitOne K (.ref CT) cv = some b → Q (.bl b) H → (Value.ref CT = Value.ref CT ∧ (none : Option Addr) = none ∧ rIsE K CT a [.ref a, c] H Q) := fun h1 h2 h3 => ⟨rfl, rfl, _, _, _, rfl, h1, h2, h3⟩
      refine ⟨.ref a, rfl, isE (fun u h => h) TC.k1 ⟨_, rfl, iteF' ?_⟩⟩
      refine ⟨.ref a, rfl, isE (fun u h => h) TC.k2 ⟨_, rfl, iteF' ?_⟩⟩
      refine ⟨.ref a, rfl, isE (fun u h => h) TC.k3 ⟨_, rfl, iteF' ?_⟩⟩
      refine ⟨.ref a, rfl, isE (fun u h => h) TC.k4 ?_⟩
      refine ⟨.ref a, rfl, isE (fun u h => h) TC.k0 ⟨_, rfl, iteT ?_⟩⟩
      refine ⟨.ref a, rfl, isE (c := .ty "ValueError") (fun u h => h) TC.kV ⟨_, rfl, iteT ?_⟩⟩
      refine ⟨.bl false, rfl, false, rfl, iteT ?_⟩
      refine ⟨.ref a, rfl, isE (fun u h => h) TC.k5 ⟨_, rfl, iteT ?_⟩⟩
      exact ⟨_, rfl, qx big H1 x1⟩
    · cases tu with
      | tup hs ha =>
        cases ha with
        | cons a1 a2 =>
          cases a2 with
          | cons b1 b2 =>
            cases b2
            exact ⟨_, _, 1, _, rfl, rfl, hs, atN (j := 1) rfl, _, r, _, rfl, b1, cn, fun H2 x2 => ⟨_, rfl, q sm H2 (x1.trans x2)⟩⟩
end
end K41

set_option maxHeartbeats 8000000
namespace Kk
open PySem PySem.Spec PyProof.Rows L2
/-! more literal data: tuples put together, taken some times; whole numbers; texts of a list -/
def lCat (φ ψ : Lit) : Lit := fun σ H d => ∃ xs ys, d = .tuple (xs ++ ys) ∧ φ σ H (.tuple xs) ∧ ψ σ H (.tuple ys) ∧ xs.length + ys.length ≤ 10000
def lRep (φ ψ : Lit) : Lit := fun σ H d => ∃ xs k, d = .tuple (List.replicate k.toNat xs).flatten ∧ φ σ H (.tuple xs) ∧ ψ σ H (.int k) ∧ xs ≠ [] ∧ xs.length ≤ 1000 ∧ 0 ≤ k ∧ k ≤ 1000
def lOp (C : Int → Int → Prop) (g : Int → Int → Int) (φ ψ : Lit) : Lit := fun σ H d => ∃ i j, d = .int (g i j) ∧ φ σ H (.int i) ∧ ψ σ H (.int j) ∧ C i j
def lAt (i n : Nat) : Lit := fun σ H d => ∃ a zs z, σ[i]? = some (some (.ref a)) ∧ H a = some (.lst (List.map V.str zs)) ∧ zs[n]? = some z ∧ d = .str z
theorem Tp.tupI {K : PySem.W.Frag} {H : Hp} {v : V} {xs : List PyData} (h : Tp K H v (.tuple xs)) : ∃ a us, v = .ref a ∧ SqT K H a us ∧ TpAll K H us xs := by
  cases h with
  | tup hs ha => exact ⟨_, _, rfl, hs, ha⟩
theorem TpAll.rep {K : PySem.W.Frag} {H : Hp} {us : List V} {xs : List PyData} (h : TpAll K H us xs) : ∀ n, TpAll K H (List.replicate n us).flatten (List.replicate n xs).flatten
  | 0 => .nil
  | n + 1 => by
    rw [List.replicate_succ, List.replicate_succ, List.flatten_cons, List.flatten_cons]
    exact h.app (TpAll.rep h n)
section
variable {X : Cx} {pos : Pos} {e e2 : Expr} {φ ψ : Lit}
theorem pl_vK {K : PySem.W.Frag} (hK : X.K = K) (i : Nat) {x : Str} {pos : Pos} (h : PE X (.Name x pos) (tVar i)) : PL X (.Name x pos) (lV K i) := by subst hK; exact pl_v i h
theorem PL.peK {K : PySem.W.Frag} (h : PL X e φ) (hK : X.K = K) : PE X e (tLit K φ) := by subst hK; exact h.pe
theorem pl_cat (a : PL X e φ) (b : PL X e2 ψ) : PL X (.BinOp e .Add e2 pos) (lCat φ ψ) := by
  refine ⟨peL (pe_op op_catA a.pe b.pe) fun σ H Q ⟨d, ⟨xs, ys, hd, h1, h2, hl⟩, q⟩ => ?_, fun σ H H' d x ⟨xs, ys, hd, h1, h2, hl⟩ => ⟨xs, ys, hd, a.mono _ _ _ _ x h1, b.mono _ _ _ _ x h2, hl⟩⟩
  subst hd
  refine ⟨_, h1, fun v H1 x1 t1 => ⟨_, b.mono _ _ _ _ x1 h2, fun v2 H2 x2 t2 => ?_⟩⟩
  obtain ⟨p1, us1, rfl, s1, a1⟩ := t1.tupI
  obtain ⟨p2, us2, rfl, s2, a2⟩ := t2.tupI
  have l1 := a1.len
  have l2 := a2.len
  refine ⟨p1, p2, us1, us2, rfl, rfl, x2.seqT s1, s2, by rw [l1, l2]; exact Nat.le_trans hl (by decide), fun e => ?_, fun _ e => ?_, fun _ _ p np => ?_⟩
  · subst e
    have : xs = [] := List.eq_nil_of_length_eq_zero (by rw [← l1]; rfl)
    subst this
    exact q _ _ (x1.trans x2) t2
  · subst e
    have : ys = [] := List.eq_nil_of_length_eq_zero (by rw [← l2]; rfl)
    subst this
    refine q _ _ (x1.trans x2) ?_
    rw [List.append_nil]; exact t1.ex x2
  · refine q _ _ ((x1.trans x2).trans (.new np)) (.tup (.of upd_same) (((a1.ex x2).app a2).ex (.new (xs := []) np)))
theorem pl_rep (a : PL X e φ) (b : PL X e2 ψ) : PL X (.BinOp e .Mult e2 pos) (lRep φ ψ) := by
  refine ⟨peL (pe_op op_repN a.pe b.pe) fun σ H Q ⟨d, ⟨xs, k, hd, h1, h2, hne, hl, k0, k1⟩, q⟩ => ?_, fun σ H H' d x ⟨xs, k, hd, h1, h2, r⟩ => ⟨xs, k, hd, a.mono _ _ _ _ x h1, b.mono _ _ _ _ x h2, r⟩⟩
  subst hd
  refine ⟨_, h1, fun v H1 x1 t1 => ⟨_, b.mono _ _ _ _ x1 h2, fun v2 H2 x2 t2 => ?_⟩⟩
  obtain ⟨p1, us1, rfl, s1, a1⟩ := t1.tupI
  cases t2
  have l1 := a1.len
  refine ⟨p1, k, us1, rfl, rfl, x2.seqT s1, fun e => hne (List.eq_nil_of_length_eq_zero (by rw [← l1, e]; rfl)), by rw [l1]; exact hl, k0, k1, fun e => ?_, fun _ p np => ?_⟩
  · subst e
    refine q _ _ (x1.trans x2) ?_
    have : (List.replicate (1 : Int).toNat xs).flatten = xs := by simp
    rw [this]; exact t1.ex x2
  · exact q _ _ ((x1.trans x2).trans (.new np)) (.tup (.of upd_same) (((a1.ex x2).ex (.new (xs := []) np)).rep k.toNat))
theorem pl_op0 {op : Operator} {g : Int → Int → Int} (o : OpR X (binaryOp op) (rI0 fun i j => .int (g i j))) (a : PL X e φ) (b : PL X e2 ψ) : PL X (.BinOp e op e2 pos) (lOp (fun _ _ => True) g φ ψ) := by
  refine ⟨peL (pe_op o a.pe b.pe) fun σ H Q ⟨d, ⟨i, j, hd, h1, h2, _⟩, q⟩ => ?_, fun σ H H' d x ⟨i, j, hd, h1, h2, r⟩ => ⟨i, j, hd, a.mono _ _ _ _ x h1, b.mono _ _ _ _ x h2, r⟩⟩
  subst hd
  refine ⟨_, h1, fun v H1 x1 t1 => ⟨_, b.mono _ _ _ _ x1 h2, fun v2 H2 x2 t2 => ?_⟩⟩
  cases t1; cases t2
  exact ⟨i, j, rfl, rfl, q _ _ (x1.trans x2) (.int _)⟩
theorem pl_opC {op : Operator} {C : Int → Int → Prop} {g : Int → Int → Int} (o : OpR X (binaryOp op) (rI C fun i j => .int (g i j))) (a : PL X e φ) (b : PL X e2 ψ) : PL X (.BinOp e op e2 pos) (lOp C g φ ψ) := by
  refine ⟨peL (pe_op o a.pe b.pe) fun σ H Q ⟨d, ⟨i, j, hd, h1, h2, hc⟩, q⟩ => ?_, fun σ H H' d x ⟨i, j, hd, h1, h2, r⟩ => ⟨i, j, hd, a.mono _ _ _ _ x h1, b.mono _ _ _ _ x h2, r⟩⟩
  subst hd
  refine ⟨_, h1, fun v H1 x1 t1 => ⟨_, b.mono _ _ _ _ x1 h2, fun v2 H2 x2 t2 => ?_⟩⟩
  cases t1; cases t2
  exact ⟨i, j, rfl, rfl, hc, q _ _ (x1.trans x2) (.int _)⟩
theorem pl_at (i : Nat) (n : Nat) {p2 : Pos} {j} (h : PE X e (tVar i)) (ns : NoSl (.Constant (.int (n : Nat)) j p2)) : PL X (.Subscript e (.Constant (.int (n : Nat)) j p2) pos) (lAt i n) := by
  refine ⟨peL (pe_ix ix_list h pe_int ns) fun σ H Q ⟨d, ⟨a, zs, z, h1, h2, h3, hd⟩, q⟩ => ?_, fun σ H H' d x ⟨a, zs, z, h1, h2, h3, hd⟩ => ⟨a, zs, z, h1, x.lst h2 (by simp), h3, hd⟩⟩
  subst hd
  exact ⟨_, h1, a, _, _, .str z, rfl, rfl, .of h2, atI_nat (by rw [List.getElem?_map, h3]; rfl), q _ _ .refl (.str z)⟩
end
end Kk
namespace K41
open PySem PySem.Spec PyProof.Rows L2 Kk RZ
theorem cut_to {xs : List V} (k : Nat) : cutV xs none (some (k : Int)) = xs.take k := by
  unfold cutV
  rw [HT.sIx_none, HT.sIx_nat, List.drop_zero, Nat.sub_zero]
  by_cases h : k ≤ xs.length
  · rw [Nat.min_eq_left h]
  · rw [Nat.min_eq_right (by omega), List.take_of_length_le (Nat.le_refl _), List.take_of_length_le (by omega)]
/-! the law's program -/
abbrev rp (w : Nat) (x : Str) : List Str := List.replicate w x
def inT (n2 x : Str) (w t : Nat) : TD := ⟨n2, rp w x, rp w x, List.replicate t (Wo.p (.tell x)) ++ [.r false [[.out 1]]]⟩
def ouT (n2 n3 x y : Str) (w c : Nat) : TD := ⟨n3, [], [], .r true [[.back], []] :: List.replicate c (Wo.p (.call n2 (rp w x) (rp w y)))⟩
def mainW (n3 y : Str) (N r : Nat) : List Wo := .r false [[.out 1]] :: (List.replicate N (Wo.p (.wipe y)) ++ List.replicate r (Wo.p (.call n3 [] [])))
theorem cm_ok {i j : Int} (h1 : 0 ≤ i) (h2 : i ≤ 1000) : CMul i j := .inl ⟨Int.lt_of_lt_of_le (by decide) h1, Int.lt_of_le_of_lt h2 (by decide)⟩
theorem flat_rep {α : Type} (k : Nat) (d : α) : (List.replicate k [d]).flatten = List.replicate k d := by
  induction k with
  | zero => rfl
  | succ k ih => rw [List.replicate_succ, List.flatten_cons, ih, List.replicate_succ]; rfl
section
variable {P : Program} {w : World} {K : PySem.W.Frag} {mg : Str → Option Value} {base : Heap}
abbrev s_program : Stmt := topS 47
abbrev n_program : List Str := ["_law_names_here", "_law_sizes", "_law_wide", "_law_more", "_law_tells", "_law_calls", "_law_rows", "_law_x", "_law_y", "_law_params", "_law_gets", "_law_around", "_law_inner", "_law_ahead", "_law_outer", "_law_many", "_law_each"]
theorem sc_program : FnScope n_program ["_law_names_here", "_law_sizes", "_law_wide", "_law_more"] (defScope s_program) := ⟨rfl, rfl, rfl, by decide +kernel, rfl, by decide +kernel, by decide +kernel⟩
def each (t c w : Nat) : Nat := 1 + 1 + c * (1 + t + 2 + (if w = 0 then 2 else 5)) + 2 * (1 + w)
def spProgram (K : PySem.W.Frag) : Sp := fun vs H Q _ => ∃ (nl sp : Addr) (n0 n1 n2 n3 : Str) (t c r w m N : Nat), vs = [.ref nl, .ref sp, .int (w : Nat), .int (m : Nat)] ∧ H nl = some (.lst ([n0, n1, n2, n3].map V.str)) ∧ SqT K H sp [.int (t : Nat), .int (c : Nat), .int (r : Nat)] ∧ w ≤ 1 ∧ t ≤ 20 ∧ c ≤ 20 ∧ r ≤ 20 ∧ m ≤ 20 ∧
  298 + m = N + r * each t c w ∧ N ≤ 300 ∧ ∀ H' u, Ex [] H H' → Tp K H' u (progD [(inT n2 n0 w t).x, (ouT n2 n3 n0 n1 w c).x] ((mainW n3 n1 N r).map Wo.d)) → Q u H'
theorem ok_program {f : Addr} {fd : FuncData} {k : Nat} (F : Fun K "_law_program" "_law_program" s_program f fd) : FnOk P w K mg base CX0 (k + 1) f fd ["_law_names_here", "_law_sizes", "_law_wide", "_law_more"] (spProgram K) := by
  refine F.ok sc_program (fun vs H Q E h => ?_) (fun cdv A outer s H vs Q E hr h => ?_)
  · obtain ⟨nl, sp, n0, n1, n2, n3, t, c, r, w, m, N, rfl, _⟩ := h; rfl
  · obtain ⟨nl, sp, n0, n1, n2, n3, t, c, r, w, m, N, rfl, hN, hS, w1, t20, c20, r20, m20, eN, lN, q⟩ := h
    refine ⟨_, (pss_cons (ps_asg (pv 1) (pg_tup rfl (pgs_cons (pg_name (i := 4) sc_program.nd rfl (.inl rfl)) (pgs_cons (pg_name (i := 5) sc_program.nd rfl (.inl rfl)) (pgs_cons (pg_name (i := 6) sc_program.nd rfl (.inl rfl)) pgs_nil)))))
      (pss_cons (ps_asg (pe_slice sl_list (pv 0) po_none (po_some pe_int)) (pg_lst rfl (pgs_cons (pg_name (i := 7) sc_program.nd rfl (.inl rfl)) (pgs_cons (pg_name (i := 8) sc_program.nd rfl (.inl rfl)) pgs_nil))))
      (pss_cons (ps_set (i := 9) sc_program.nd rfl (.inl rfl) (PL.peK (K := K) (pl_rep (pl_tup (pls_cons (pl_vK (K := K) rfl 7 (pv 7)) pls_nil) (by decide)) (pl_vK (K := K) rfl 2 (pv 2))) rfl))
      (pss_cons (ps_set (i := 10) sc_program.nd rfl (.inl rfl) (PL.peK (K := K) (pl_rep (pl_tup (pls_cons (pl_vK (K := K) rfl 8 (pv 8)) pls_nil) (by decide)) (pl_vK (K := K) rfl 2 (pv 2))) rfl))
      (pss_cons (ps_set (i := 11) sc_program.nd rfl (.inl rfl) (PL.peK (K := K) (pl_tup (pls_cons (pl_tup (pls_cons pl_str (pls_cons (pl_tup (pls_cons (pl_tup (pls_cons pl_str (pls_cons pl_int pls_nil)) (by decide)) pls_nil) (by decide)) pls_nil)) (by decide)) pls_nil) (by decide)) rfl))
      (pss_cons (ps_set (i := 12) sc_program.nd rfl (.inl rfl) (PL.peK (K := K) (pl_tup (pls_cons (pl_at 0 2 (pv 0) (fun _ _ => rfl)) (pls_cons (pl_vK (K := K) rfl 9 (pv 9)) (pls_cons (pl_vK (K := K) rfl 9 (pv 9)) (pls_cons (pl_cat (pl_rep (pl_tup (pls_cons (pl_tup (pls_cons pl_str (pls_cons (pl_vK (K := K) rfl 7 (pv 7)) pls_nil)) (by decide)) pls_nil) (by decide)) (pl_vK (K := K) rfl 4 (pv 4))) (pl_vK (K := K) rfl 11 (pv 11))) pls_nil)))) (by decide)) rfl))
      (pss_cons (ps_set (i := 13) sc_program.nd rfl (.inl rfl) (PL.peK (K := K) (pl_tup (pls_cons (pl_tup (pls_cons pl_str (pls_cons (pl_tup (pls_cons (pl_tup (pls_cons (pl_tup (pls_cons pl_str pls_nil) (by decide)) pls_nil) (by decide)) (pls_cons (pl_tup pls_nil (by decide)) pls_nil)) (by decide)) pls_nil)) (by decide)) pls_nil) (by decide)) rfl))
      (pss_cons (ps_set (i := 14) sc_program.nd rfl (.inl rfl) (PL.peK (K := K) (pl_tup (pls_cons (pl_at 0 3 (pv 0) (fun _ _ => rfl)) (pls_cons (pl_tup pls_nil (by decide)) (pls_cons (pl_tup pls_nil (by decide)) (pls_cons (pl_cat (pl_vK (K := K) rfl 13 (pv 13)) (pl_rep (pl_tup (pls_cons (pl_tup (pls_cons pl_str (pls_cons (pl_at 0 2 (pv 0) (fun _ _ => rfl)) (pls_cons (pl_vK (K := K) rfl 9 (pv 9)) (pls_cons (pl_vK (K := K) rfl 10 (pv 10)) pls_nil)))) (by decide)) pls_nil) (by decide)) (pl_vK (K := K) rfl 5 (pv 5)))) pls_nil)))) (by decide)) rfl))
      (pss_cons (ps_set (i := 15) sc_program.nd rfl (.inl rfl) (pe_op op_add (pe_op op_add (pe_op op_add pe_int (pv 4)) pe_int) (pe_ifExp (pt_cmpR op_eq (pv 2) pe_int (nomark _)) pe_int (pe_op op_add pe_int pe_int))))
      (pss_cons (ps_set (i := 16) sc_program.nd rfl (.inl rfl) (pe_op op_add (pe_op op_add (pe_op op_add pe_int pe_int) (pe_op op_mul (pv 5) (pv 15))) (pe_op op_mul pe_int (pe_op op_add pe_int (pv 2)))))
      (pss_cons (ps_set (i := 13) sc_program.nd rfl (.inl rfl) (PL.peK (K := K) (pl_cat (pl_vK (K := K) rfl 11 (pv 11)) (pl_rep (pl_tup (pls_cons (pl_tup (pls_cons pl_str (pls_cons (pl_vK (K := K) rfl 8 (pv 8)) pls_nil)) (by decide)) pls_nil) (by decide)) (pl_op0 op_sub (pl_op0 op_add pl_int (pl_vK (K := K) rfl 3 (pv 3))) (pl_opC op_mul (pl_vK (K := K) rfl 6 (pv 6)) (pl_vK (K := K) rfl 16 (pv 16)))))) rfl))
      (pss_one (ps_ret (PL.peK (K := K) (pl_tup (pls_cons (pl_tup (pls_cons (pl_vK (K := K) rfl 12 (pv 12)) (pls_cons (pl_vK (K := K) rfl 14 (pv 14)) pls_nil)) (by decide)) (pls_cons (pl_cat (pl_vK (K := K) rfl 13 (pv 13)) (pl_rep (pl_tup (pls_cons (pl_tup (pls_cons pl_str (pls_cons (pl_at 0 3 (pv 0) (fun _ _ => rfl)) (pls_cons (pl_tup pls_nil (by decide)) (pls_cons (pl_tup pls_nil (by decide)) pls_nil)))) (by decide)) pls_nil) (by decide)) (pl_vK (K := K) rfl 6 (pv 6)))) pls_nil)) (by decide)) rfl)))))))))))))), ?_⟩
    refine ⟨.ref sp, rfl, sp, _, rfl, hS, rfl, _, _, rfl, _, _, rfl, _, _, rfl, rfl, ?_⟩
    refine ⟨.ref nl, rfl, 2, rfl, nl, _, rfl, .of hN, fun p np => ?_⟩
    rw [show cutV ([n0, n1, n2, n3].map V.str) none (some 2) = [V.str n0, V.str n1] from cut_to (xs := [n0, n1, n2, n3].map V.str) 2]
    obtain ⟨x1, hp⟩ := nw (o := .lst [V.str n0, .str n1]) np
    refine ⟨p, _, rfl, .of hp, rfl, _, _, rfl, _, _, rfl, rfl, ?_⟩
    have hN1 := x1.lst hN
    generalize upd H p (.lst [V.str n0, .str n1]) = H1 at x1 hN1 ⊢
    have eR : ∀ (k : Nat) (d : PyData), (List.replicate ((k : Nat) : Int).toNat [d]).flatten = List.replicate k d := fun k d => by rw [Int.toNat_natCast, flat_rep]
    have eS : ∀ (k : Nat) (z : Str), tsL (rp k z) = .tuple (List.replicate k (.str z)) := fun k z => by show PyData.tuple ((List.replicate k z).map PyData.str) = _; rw [List.map_replicate]
    -- params, gets
    refine ⟨tsL (rp w n0), ⟨[.str n0], (w : Nat), by rw [eR, eS], ⟨_, rfl, _, _, rfl, ⟨.str n0, rfl, .str n0⟩, rfl⟩, ⟨.int (w : Nat), rfl, .int _⟩, by simp, (by show 1 ≤ 1000; decide), by omega, by omega⟩, fun u9 H2 x2 t9 => ?_⟩
    rw [show (List.set (List.set (List.set (List.set (List.set (_root_.L2.start n_program [V.ref nl, V.ref sp, V.int ((w : Nat) : Int), V.int ((m : Nat) : Int)]) 4 (some (V.int (t : Nat)))) 5 (some (V.int (c : Nat)))) 6 (some (V.int (r : Nat)))) 7 (some (V.str n0))) 8 (some (V.str n1))) = [some (V.ref nl), some (V.ref sp), some (V.int ((w : Nat) : Int)), some (V.int ((m : Nat) : Int)), some (V.int ((t : Nat) : Int)), some (V.int ((c : Nat) : Int)), some (V.int ((r : Nat) : Int)), some (V.str n0), some (V.str n1), none, none, none, none, none, none, none, none] from rfl]
    refine ⟨tsL (rp w n1), ⟨[.str n1], (w : Nat), by rw [eR, eS], ⟨_, rfl, _, _, rfl, ⟨.str n1, rfl, .str n1⟩, rfl⟩, ⟨.int (w : Nat), rfl, .int _⟩, by simp, (by show 1 ≤ 1000; decide), by omega, by omega⟩, fun u10 H3 x3 t10 => ?_⟩
    rw [show (List.set [some (V.ref nl), some (V.ref sp), some (V.int ((w : Nat) : Int)), some (V.int ((m : Nat) : Int)), some (V.int ((t : Nat) : Int)), some (V.int ((c : Nat) : Int)), some (V.int ((r : Nat) : Int)), some (V.str n0), some (V.str n1), none, none, none, none, none, none, none, none] 9 (some u9)) = [some (V.ref nl), some (V.ref sp), some (V.int ((w : Nat) : Int)), some (V.int ((m : Nat) : Int)), some (V.int ((t : Nat) : Int)), some (V.int ((c : Nat) : Int)), some (V.int ((r : Nat) : Int)), some (V.str n0), some (V.str n1), some u9, none, none, none, none, none, none, none] from rfl]
    -- around
    have t93 := t9.ex x3
    refine ⟨.tuple [(Wo.r false [[Pw.out 1]]).d], ⟨_, rfl, _, _, rfl, ⟨_, rfl, _, _, rfl, rfl, _, _, rfl, ⟨_, rfl, _, _, rfl, ⟨_, rfl, _, _, rfl, rfl, _, _, rfl, rfl, rfl⟩, rfl⟩, rfl⟩, rfl⟩, fun u11 H4 x4 t11 => ?_⟩
    have t94 := t93.ex x4
    have hN4 := x4.lst (x3.lst (x2.lst hN1))
    rw [show (List.set [some (V.ref nl), some (V.ref sp), some (V.int ((w : Nat) : Int)), some (V.int ((m : Nat) : Int)), some (V.int ((t : Nat) : Int)), some (V.int ((c : Nat) : Int)), some (V.int ((r : Nat) : Int)), some (V.str n0), some (V.str n1), some u9, none, none, none, none, none, none, none] 10 (some u10)) = [some (V.ref nl), some (V.ref sp), some (V.int ((w : Nat) : Int)), some (V.int ((m : Nat) : Int)), some (V.int ((t : Nat) : Int)), some (V.int ((c : Nat) : Int)), some (V.int ((r : Nat) : Int)), some (V.str n0), some (V.str n1), some u9, some u10, none, none, none, none, none, none] from rfl]
    -- inner
    have e12 : (inT n2 n0 w t).x.d = .tuple [.str n2, tsL (rp w n0), tsL (rp w n0), .tuple (List.replicate t (Pw.tell n0).d ++ [(Wo.r false [[Pw.out 1]]).d])] := by
      show PyData.tuple [_, _, _, .tuple ((List.replicate t (Wo.p (.tell n0)) ++ [Wo.r false [[.out 1]]]).map Wo.d)] = _
      rw [List.map_append, List.map_replicate]; rfl
    refine ⟨(inT n2 n0 w t).x.d, ⟨_, e12, _, _, rfl, ⟨nl, [n0, n1, n2, n3], n2, rfl, hN4, rfl, rfl⟩, _, _, rfl, ⟨u9, rfl, t94⟩, _, _, rfl, ⟨u9, rfl, t94⟩, _, _, rfl, ⟨List.replicate t (Pw.tell n0).d, [(Wo.r false [[Pw.out 1]]).d], rfl, ⟨[(Pw.tell n0).d], (t : Nat), by rw [eR], ⟨_, rfl, _, _, rfl, ⟨_, rfl, _, _, rfl, rfl, _, _, rfl, ⟨.str n0, rfl, .str _⟩, rfl⟩, rfl⟩, ⟨.int (t : Nat), rfl, .int _⟩, by simp, (by show 1 ≤ 1000; decide), by omega, by omega⟩, ⟨u11, rfl, t11⟩, by rw [List.length_replicate]; simp; omega⟩, rfl⟩, fun u12 H5 x5 t12 => ?_⟩
    rw [show (List.set [some (V.ref nl), some (V.ref sp), some (V.int ((w : Nat) : Int)), some (V.int ((m : Nat) : Int)), some (V.int ((t : Nat) : Int)), some (V.int ((c : Nat) : Int)), some (V.int ((r : Nat) : Int)), some (V.str n0), some (V.str n1), some u9, some u10, none, none, none, none, none, none] 11 (some u11)) = [some (V.ref nl), some (V.ref sp), some (V.int ((w : Nat) : Int)), some (V.int ((m : Nat) : Int)), some (V.int ((t : Nat) : Int)), some (V.int ((c : Nat) : Int)), some (V.int ((r : Nat) : Int)), some (V.str n0), some (V.str n1), some u9, some u10, some u11, none, none, none, none, none] from rfl]
    -- ahead
    have t95 := t94.ex x5
    have hN5 := x5.lst hN4
    refine ⟨.tuple [(Wo.r true [[Pw.back], []]).d], ⟨_, rfl, _, _, rfl, ⟨_, rfl, _, _, rfl, rfl, _, _, rfl, ⟨_, rfl, _, _, rfl, ⟨_, rfl, _, _, rfl, ⟨_, rfl, _, _, rfl, rfl, rfl⟩, rfl⟩, _, _, rfl, ⟨_, rfl, rfl⟩, rfl⟩, rfl⟩, rfl⟩, fun u13 H6 x6 t13 => ?_⟩
    have t96 := t95.ex x6
    have hN6 := x6.lst hN5
    have t106 := ((t10.ex x4).ex x5).ex x6
    rw [show (List.set [some (V.ref nl), some (V.ref sp), some (V.int ((w : Nat) : Int)), some (V.int ((m : Nat) : Int)), some (V.int ((t : Nat) : Int)), some (V.int ((c : Nat) : Int)), some (V.int ((r : Nat) : Int)), some (V.str n0), some (V.str n1), some u9, some u10, some u11, none, none, none, none, none] 12 (some u12)) = [some (V.ref nl), some (V.ref sp), some (V.int ((w : Nat) : Int)), some (V.int ((m : Nat) : Int)), some (V.int ((t : Nat) : Int)), some (V.int ((c : Nat) : Int)), some (V.int ((r : Nat) : Int)), some (V.str n0), some (V.str n1), some u9, some u10, some u11, some u12, none, none, none, none] from rfl]
    -- outer
    have e14 : (ouT n2 n3 n0 n1 w c).x.d = .tuple [.str n3, .tuple [], .tuple [], .tuple ([(Wo.r true [[Pw.back], []]).d] ++ List.replicate c (Pw.call n2 (rp w n0) (rp w n1)).d)] := by
      show PyData.tuple [_, _, _, .tuple ((Wo.r true [[Pw.back], []] :: List.replicate c (Wo.p (.call n2 (rp w n0) (rp w n1)))).map Wo.d)] = _
      rw [List.map_cons, List.map_replicate]; rfl
    refine ⟨(ouT n2 n3 n0 n1 w c).x.d, ⟨_, e14, _, _, rfl, ⟨nl, [n0, n1, n2, n3], n3, rfl, hN6, rfl, rfl⟩, _, _, rfl, ⟨_, rfl, rfl⟩, _, _, rfl, ⟨_, rfl, rfl⟩, _, _, rfl, ⟨[(Wo.r true [[Pw.back], []]).d], List.replicate c (Pw.call n2 (rp w n0) (rp w n1)).d, rfl, ⟨u13, rfl, t13⟩, ⟨[(Pw.call n2 (rp w n0) (rp w n1)).d], (c : Nat), by rw [eR], ⟨_, rfl, _, _, rfl, ⟨_, rfl, _, _, rfl, rfl, _, _, rfl, ⟨nl, [n0, n1, n2, n3], n2, rfl, hN6, rfl, rfl⟩, _, _, rfl, ⟨u9, rfl, t96⟩, _, _, rfl, ⟨u10, rfl, t106⟩, rfl⟩, rfl⟩, ⟨.int (c : Nat), rfl, .int _⟩, by simp, (by show 1 ≤ 1000; decide), by omega, by omega⟩, by rw [List.length_replicate]; simp; omega⟩, rfl⟩, fun u14 H7 x7 t14 => ?_⟩
    rw [show (List.set [some (V.ref nl), some (V.ref sp), some (V.int ((w : Nat) : Int)), some (V.int ((m : Nat) : Int)), some (V.int ((t : Nat) : Int)), some (V.int ((c : Nat) : Int)), some (V.int ((r : Nat) : Int)), some (V.str n0), some (V.str n1), some u9, some u10, some u11, some u12, none, none, none, none] 13 (some u13)) = [some (V.ref nl), some (V.ref sp), some (V.int ((w : Nat) : Int)), some (V.int ((m : Nat) : Int)), some (V.int ((t : Nat) : Int)), some (V.int ((c : Nat) : Int)), some (V.int ((r : Nat) : Int)), some (V.str n0), some (V.str n1), some u9, some u10, some u11, some u12, some u13, none, none, none] from rfl]
    have t117 := ((t11.ex x5).ex x6).ex x7
    have t127 := (t12.ex x6).ex x7
    have hN7 := x7.lst hN6
    have x07 : Ex [] H H7 := ((((((x1.trans x2).trans x3).trans x4).trans x5).trans x6).trans x7)
    have w01 : w = 0 ∨ w = 1 := by omega
    rcases w01 with rfl | rfl
    · refine ⟨.int (t : Nat), rfl, _, _, rfl, rfl, _, _, rfl, rfl, .int ((0 : Nat) : Int), rfl, rfl, _, rfl, itD rfl ?_⟩
      refine ⟨_, _, rfl, rfl, _, _, rfl, rfl, .int (c : Nat), rfl, .int (1 + (t : Int) + 2 + 2), rfl, _, _, rfl, rfl, cm_ok (by omega) (by omega), _, _, rfl, rfl, .int ((0 : Nat) : Int), rfl, _, _, rfl, rfl, _, _, rfl, rfl, cm_ok (by omega) (by omega), _, _, rfl, rfl, ?_⟩
      have eK : ((298 + (m : Int)) - (r : Int) * (1 + 1 + (c : Nat) * (1 + (t : Int) + 2 + 2) + 2 * (1 + ((0 : Nat) : Int)))) = ((N : Nat) : Int) := by
        have ez : ((each t c 0 : Nat) : Int) = (1 + 1 + (c : Nat) * (1 + (t : Int) + 2 + 2) + 2 * (1 + ((0 : Nat) : Int))) := by unfold each; first | (rw [if_pos rfl]; simp only [Int.natCast_add, Int.natCast_mul]; rfl) | (rw [if_neg (by decide)]; simp only [Int.natCast_add, Int.natCast_mul]; rfl)
        rw [← ez]
        have : ((298 + m : Nat) : Int) = ((N + r * each t c 0 : Nat) : Int) := congrArg _ eN
        rw [Int.natCast_add, Int.natCast_add, Int.natCast_mul] at this
        have h298 : ((298 : Nat) : Int) = 298 := rfl
        rw [h298] at this
        omega
      refine ⟨.tuple ([(Wo.r false [[Pw.out 1]]).d] ++ List.replicate N (Pw.wipe n1).d), ⟨_, _, rfl, ⟨u11, rfl, t117⟩, ⟨[(Pw.wipe n1).d], (298 + (m : Int)) - (r : Int) * (1 + 1 + (c : Nat) * (1 + (t : Int) + 2 + 2) + 2 * (1 + ((0 : Nat) : Int))), by rw [eK, eR], ⟨_, rfl, _, _, rfl, ⟨_, rfl, _, _, rfl, rfl, _, _, rfl, ⟨.str n1, rfl, .str _⟩, rfl⟩, rfl⟩, ⟨_, _, rfl, ⟨_, _, rfl, rfl, ⟨.int (m : Nat), rfl, .int _⟩, trivial⟩, ⟨_, _, rfl, ⟨.int (r : Nat), rfl, .int _⟩, ⟨.int (1 + 1 + (c : Nat) * (1 + (t : Int) + 2 + 2) + 2 * (1 + ((0 : Nat) : Int))), rfl, .int _⟩, cm_ok (by omega) (by omega)⟩, trivial⟩, by simp, (by show 1 ≤ 1000; decide), by rw [eK]; omega, by rw [eK]; omega⟩, by rw [List.length_replicate]; simp; omega⟩, fun u15 H8 x8 t15 => ?_⟩
      have hN8 := x8.lst hN7
      have e18 : progD [(inT n2 n0 0 t).x, (ouT n2 n3 n0 n1 0 c).x] ((mainW n3 n1 N r).map Wo.d) = .tuple [.tuple [(inT n2 n0 0 t).x.d, (ouT n2 n3 n0 n1 0 c).x.d], .tuple (([(Wo.r false [[Pw.out 1]]).d] ++ List.replicate N (Pw.wipe n1).d) ++ List.replicate r (Pw.call n3 [] []).d)] := by
        have em : (mainW n3 n1 N r).map Wo.d = ([(Wo.r false [[Pw.out 1]]).d] ++ List.replicate N (Pw.wipe n1).d) ++ List.replicate r (Pw.call n3 [] []).d := by
          unfold mainW
          rw [List.map_cons, List.map_append, List.map_replicate, List.map_replicate]; rfl
        rw [em]; rfl
      refine ⟨_, ⟨_, e18, _, _, rfl, ⟨_, rfl, _, _, rfl, ⟨u12, rfl, t127.ex x8⟩, _, _, rfl, ⟨u14, rfl, t14.ex x8⟩, rfl⟩, _, _, rfl, ⟨_, List.replicate r (Pw.call n3 [] []).d, rfl, ⟨u15, rfl, t15⟩, ⟨[(Pw.call n3 [] []).d], (r : Nat), by rw [eR], ⟨_, rfl, _, _, rfl, ⟨_, rfl, _, _, rfl, rfl, _, _, rfl, ⟨nl, [n0, n1, n2, n3], n3, rfl, hN8, rfl, rfl⟩, _, _, rfl, ⟨_, rfl, rfl⟩, _, _, rfl, ⟨_, rfl, rfl⟩, rfl⟩, rfl⟩, ⟨.int (r : Nat), rfl, .int _⟩, by simp, (by show 1 ≤ 1000; decide), by omega, by omega⟩, by simp; omega⟩, rfl⟩, fun u H9 x9 tu => q H9 u ((x07.trans x8).trans x9) tu⟩
    · refine ⟨.int (t : Nat), rfl, _, _, rfl, rfl, _, _, rfl, rfl, .int ((1 : Nat) : Int), rfl, rfl, _, rfl, itN (by decide) ?_⟩
      refine ⟨_, _, rfl, rfl, _, _, rfl, rfl, _, _, rfl, rfl, .int (c : Nat), rfl, .int (1 + (t : Int) + 2 + (2 + 3)), rfl, _, _, rfl, rfl, cm_ok (by omega) (by omega), _, _, rfl, rfl, .int ((1 : Nat) : Int), rfl, _, _, rfl, rfl, _, _, rfl, rfl, cm_ok (by omega) (by omega), _, _, rfl, rfl, ?_⟩
      have eK : ((298 + (m : Int)) - (r : Int) * (1 + 1 + (c : Nat) * (1 + (t : Int) + 2 + (2 + 3)) + 2 * (1 + ((1 : Nat) : Int)))) = ((N : Nat) : Int) := by
        have ez : ((each t c 1 : Nat) : Int) = (1 + 1 + (c : Nat) * (1 + (t : Int) + 2 + (2 + 3)) + 2 * (1 + ((1 : Nat) : Int))) := by unfold each; first | (rw [if_pos rfl]; simp only [Int.natCast_add, Int.natCast_mul]; rfl) | (rw [if_neg (by decide)]; simp only [Int.natCast_add, Int.natCast_mul]; rfl)
        rw [← ez]
        have : ((298 + m : Nat) : Int) = ((N + r * each t c 1 : Nat) : Int) := congrArg _ eN
        rw [Int.natCast_add, Int.natCast_add, Int.natCast_mul] at this
        have h298 : ((298 : Nat) : Int) = 298 := rfl
        rw [h298] at this
        omega
      refine ⟨.tuple ([(Wo.r false [[Pw.out 1]]).d] ++ List.replicate N (Pw.wipe n1).d), ⟨_, _, rfl, ⟨u11, rfl, t117⟩, ⟨[(Pw.wipe n1).d], (298 + (m : Int)) - (r : Int) * (1 + 1 + (c : Nat) * (1 + (t : Int) + 2 + (2 + 3)) + 2 * (1 + ((1 : Nat) : Int))), by rw [eK, eR], ⟨_, rfl, _, _, rfl, ⟨_, rfl, _, _, rfl, rfl, _, _, rfl, ⟨.str n1, rfl, .str _⟩, rfl⟩, rfl⟩, ⟨_, _, rfl, ⟨_, _, rfl, rfl, ⟨.int (m : Nat), rfl, .int _⟩, trivial⟩, ⟨_, _, rfl, ⟨.int (r : Nat), rfl, .int _⟩, ⟨.int (1 + 1 + (c : Nat) * (1 + (t : Int) + 2 + (2 + 3)) + 2 * (1 + ((1 : Nat) : Int))), rfl, .int _⟩, cm_ok (by omega) (by omega)⟩, trivial⟩, by simp, (by show 1 ≤ 1000; decide), by rw [eK]; omega, by rw [eK]; omega⟩, by rw [List.length_replicate]; simp; omega⟩, fun u15 H8 x8 t15 => ?_⟩
      have hN8 := x8.lst hN7
      have e18 : progD [(inT n2 n0 1 t).x, (ouT n2 n3 n0 n1 1 c).x] ((mainW n3 n1 N r).map Wo.d) = .tuple [.tuple [(inT n2 n0 1 t).x.d, (ouT n2 n3 n0 n1 1 c).x.d], .tuple (([(Wo.r false [[Pw.out 1]]).d] ++ List.replicate N (Pw.wipe n1).d) ++ List.replicate r (Pw.call n3 [] []).d)] := by
        have em : (mainW n3 n1 N r).map Wo.d = ([(Wo.r false [[Pw.out 1]]).d] ++ List.replicate N (Pw.wipe n1).d) ++ List.replicate r (Pw.call n3 [] []).d := by
          unfold mainW
          rw [List.map_cons, List.map_append, List.map_replicate, List.map_replicate]; rfl
        rw [em]; rfl
      refine ⟨_, ⟨_, e18, _, _, rfl, ⟨_, rfl, _, _, rfl, ⟨u12, rfl, t127.ex x8⟩, _, _, rfl, ⟨u14, rfl, t14.ex x8⟩, rfl⟩, _, _, rfl, ⟨_, List.replicate r (Pw.call n3 [] []).d, rfl, ⟨u15, rfl, t15⟩, ⟨[(Pw.call n3 [] []).d], (r : Nat), by rw [eR], ⟨_, rfl, _, _, rfl, ⟨_, rfl, _, _, rfl, rfl, _, _, rfl, ⟨nl, [n0, n1, n2, n3], n3, rfl, hN8, rfl, rfl⟩, _, _, rfl, ⟨_, rfl, rfl⟩, _, _, rfl, ⟨_, rfl, rfl⟩, rfl⟩, rfl⟩, ⟨.int (r : Nat), rfl, .int _⟩, by simp, (by show 1 ≤ 1000; decide), by omega, by omega⟩, by simp; omega⟩, rfl⟩, fun u H9 x9 tu => q H9 u ((x07.trans x8).trans x9) tu⟩
end
end K41

set_option maxHeartbeats 8000000
namespace K41
open PySem PySem.Spec PyProof.Rows L2 Kk RZ
/-! what the law's programs are -/
theorem NmG.qs {z : Str} (h : NmG z) : Qs z := by
  refine ⟨h.q, fun m => ?_, by have := h.hi; omega⟩
  have := h.abc 46 m
  exact absurd this (by decide +kernel)
def qS : Str := Str.ofString "q"
theorem qs_q : Qs qS := ⟨by decide +kernel, by decide +kernel, by decide +kernel⟩
theorem qs_last : Qs odd8 := ⟨by decide +kernel, by decide +kernel, by decide +kernel⟩
def dmL (x y : Str) (kn : List (Str × Nat × Nat)) : Dm := ⟨[x, y, qS, qS, qS, qS], [], [], [], kn⟩
theorem dq_L {x y : Str} {kn : List (Str × Nat × Nat)} (hx : Qs x) (hy : Qs y) (hk : ∀ p ∈ kn, Qs p.1) : DQ (dmL x y kn) := by
  refine ⟨fun z hz => ?_, fun z hz => (by cases hz), fun z hz => (by cases hz), hk⟩
  simp only [dmL, List.mem_cons, List.not_mem_nil, or_false] at hz
  rcases hz with rfl | rfl | rfl | rfl | rfl | rfl
  · exact hx
  · exact hy
  all_goals exact qs_q
theorem sub_0 {x y : Str} {kn : List (Str × Nat × Nat)} : Sub (dmL x y kn) [] := ⟨_, .refl _⟩
theorem sub_x {x y : Str} {kn : List (Str × Nat × Nat)} : Sub (dmL x y kn) [x] := ⟨_, .refl _⟩
theorem sub_y {x y : Str} {kn : List (Str × Nat × Nat)} : Sub (dmL x y kn) [y] := ⟨[x, qS, qS, qS, qS], List.Perm.swap x y _⟩
theorem sub_rx {x y : Str} {kn : List (Str × Nat × Nat)} {w : Nat} (h : w ≤ 1) : Sub (dmL x y kn) (rp w x) := by
  have : w = 0 ∨ w = 1 := by omega
  rcases this with rfl | rfl
  · exact sub_0
  · exact sub_x
theorem sub_ry {x y : Str} {kn : List (Str × Nat × Nat)} {w : Nat} (h : w ≤ 1) : Sub (dmL x y kn) (rp w y) := by
  have : w = 0 ∨ w = 1 := by omega
  rcases this with rfl | rfl
  · exact sub_0
  · exact sub_y
theorem mem_rp {w : Nat} {x z : Str} (h : z ∈ rp w x) : z = x := List.eq_of_mem_replicate h
/-- a def of these words -/
theorem dfo_of {D : Dm} {t : TD} (dq : DQ D) (h6 : D.boxes.length = 6) (nr : D.recs = []) (hW : ∀ w ∈ t.ws, OkW D w) (lw : t.ws.length ≤ 300) (hx : ∀ z ∈ t.xs, z ∈ D.boxes) (hy : ∀ z ∈ t.ys, z ∈ D.boxes) (lx : t.xs.length ≤ 4) (ly : t.ys.length ≤ 4) : DfO D t.x :=
  ⟨dq, h6, nr, rw_of (by omega) hW, hx, hy, lx, ly⟩
theorem oth_iff {D : Dm} {t : TD} (hW : ∀ w ∈ t.ws, OkW D w) : Oth t.x ↔ ∃ z, ((∃ w ∈ t.ws, z ∈ w.bx) ∨ z ∈ t.xs) ∧ z ∉ t.ys := by
  constructor
  · rintro ⟨z, h, n⟩
    rcases h with h | h | h
    · exact ⟨z, .inl (bx_out hW h), n⟩
    · exact ⟨z, .inr h, n⟩
    · exact absurd h n
  · rintro ⟨z, h, n⟩
    rcases h with ⟨w, hw, hz⟩ | h
    · exact ⟨z, .inl (bx_in hW hw hz), n⟩
    · exact ⟨z, .inr (.inl h), n⟩
open Classical in
theorem bk_eq (x : DfX) : bk x = 2 * x.ys.length + (if Oth x then 1 else 0) + 1 := rfl
theorem bk_y {x : DfX} (h : Oth x) : bk x = 2 * x.ys.length + 2 := by unfold bk; rw [if_pos h]
theorem bk_n {x : DfX} (h : ¬ Oth x) : bk x = 2 * x.ys.length + 1 := by unfold bk; rw [if_neg h]
theorem szR_rep (sz : Str → Nat) (b : Nat) (w : Wo) : ∀ n, szR sz b (List.replicate n w) = n * szW sz b w
  | 0 => by simp [szR]
  | n + 1 => by rw [List.replicate_succ, szR_cons, szR_rep sz b w n, Nat.succ_mul]; omega
/-- two defs -/
def sz2 (n2 n3 : Str) (w t c : Nat) (a : Str) : Nat := if a = n2 then 1 + t + 2 + (if w = 0 then 2 else 5) else if a = n3 then each t c w else 0
section
variable {n0 n1 n2 n3 : Str} {w t c : Nat}
def kn2 (n2 n3 : Str) (w : Nat) : List (Str × Nat × Nat) := [(n2, w, w), (n3, 0, 0)]
theorem okw_in (hw : w ≤ 1) : ∀ v ∈ (inT n2 n0 w t).ws, OkW (dmL n0 n1 (kn2 n2 n3 w)) v := by
  intro v hv
  rcases List.mem_append.mp hv with m | m
  · rw [List.eq_of_mem_replicate m]; exact List.mem_cons_self
  · rw [List.mem_singleton.mp m]
    refine ⟨by simp, by simp, fun _ => rfl, fun r hr => ?_⟩
    rw [List.mem_singleton.mp hr]
    exact ⟨by simp, fun p hp => by rw [List.mem_singleton.mp hp]; exact ⟨by omega, by omega⟩⟩
theorem okw_ou (hw : w ≤ 1) : ∀ v ∈ (ouT n2 n3 n0 n1 w c).ws, OkW (dmL n0 n1 (kn2 n2 n3 w)) v := by
  intro v hv
  rcases List.mem_cons.mp hv with m | m
  · rw [m]
    refine ⟨by simp, by simp, fun e => (by cases e), fun r hr => ?_⟩
    simp only [List.mem_cons, List.not_mem_nil, or_false] at hr
    rcases hr with rfl | rfl
    · exact ⟨by simp, fun p hp => by rw [List.mem_singleton.mp hp]; exact True.intro⟩
    · exact ⟨by simp, fun p hp => by cases hp⟩
  · rw [List.eq_of_mem_replicate m]
    refine ⟨?_, sub_rx hw, sub_ry hw⟩
    show (n2, (rp w n0).length, (rp w n1).length) ∈ kn2 n2 n3 w
    rw [List.length_replicate, List.length_replicate]; exact List.mem_cons_self
theorem okw_ma {N r : Nat} : ∀ v ∈ mainW n3 n1 N r, OkW (dmL n0 n1 (kn2 n2 n3 w)) v := by
  intro v hv
  rcases List.mem_cons.mp hv with m | m
  · rw [m]
    refine ⟨by simp, by simp, fun _ => rfl, fun r hr => ?_⟩
    rw [List.mem_singleton.mp hr]
    exact ⟨by simp, fun p hp => by rw [List.mem_singleton.mp hp]; exact ⟨by omega, by omega⟩⟩
  · rcases List.mem_append.mp m with m | m
    · rw [List.eq_of_mem_replicate m]; exact List.mem_cons_of_mem _ List.mem_cons_self
    · rw [List.eq_of_mem_replicate m]; exact ⟨List.mem_cons_of_mem _ List.mem_cons_self, sub_0, sub_0⟩
theorem bk_in (hw : w ≤ 1) (ht : 1 ≤ t) : bk (inT n2 n0 w t).x = if w = 0 then 2 else 3 := by
  have oi := oth_iff (D := dmL n0 n0 (kn2 n2 n2 w)) (t := inT n2 n0 w t) (okw_in hw)
  have hw' : w = 0 ∨ w = 1 := by omega
  rcases hw' with rfl | rfl
  · have : Oth (inT n2 n0 0 t).x := oi.mpr ⟨n0, .inl ⟨.p (.tell n0), List.mem_append_left _ (List.mem_replicate.mpr ⟨by omega, rfl⟩), List.mem_cons_self⟩, by simp [inT]⟩
    rw [bk_y this]; rfl
  · have : ¬ Oth (inT n2 n0 1 t).x := fun h => by
      obtain ⟨z, hz, nz⟩ := oi.mp h
      refine nz ?_
      show z ∈ [n0]
      rcases hz with ⟨v, hv, hz⟩ | hz
      · rcases List.mem_append.mp hv with m | m
        · rw [List.eq_of_mem_replicate m] at hz; exact hz
        · rw [List.mem_singleton.mp m] at hz
          simp [Wo.bx, Pw.bx] at hz
      · exact hz
    rw [bk_n this]; rfl
theorem bk_ou (hw : w ≤ 1) (hc : 1 ≤ c) : bk (ouT n2 n3 n0 n1 w c).x = 1 + w := by
  have oi := oth_iff (D := dmL n0 n1 (kn2 n2 n3 w)) (t := ouT n2 n3 n0 n1 w c) (okw_ou hw)
  have hw' : w = 0 ∨ w = 1 := by omega
  rcases hw' with rfl | rfl
  · have : ¬ Oth (ouT n2 n3 n0 n1 0 c).x := fun h => by
      obtain ⟨z, hz, nz⟩ := oi.mp h
      rcases hz with ⟨v, hv, hz⟩ | hz
      · rcases List.mem_cons.mp hv with m | m
        · rw [m] at hz; simp [Wo.bx, Pw.bx] at hz
        · rw [List.eq_of_mem_replicate m] at hz; simp [Wo.bx, Pw.bx] at hz
      · cases hz
    rw [bk_n this]; rfl
  · have : Oth (ouT n2 n3 n0 n1 1 c).x := oi.mpr ⟨n0, .inl ⟨.p (.call n2 [n0] [n1]), List.mem_cons_of_mem _ (List.mem_replicate.mpr ⟨by omega, rfl⟩), List.mem_cons_self⟩, by simp [ouT]⟩
    rw [bk_y this]; rfl
theorem tok2 (q0 : Qs n0) (q1 : Qs n1) (q2 : Qs n2) (q3 : Qs n3) (ne : n2 ≠ n3) (hw : w ≤ 1) (ht : 1 ≤ t) (ht2 : t ≤ 20) (hc : 1 ≤ c) (hc2 : c ≤ 20) : TOk [inT n2 n0 w t, ouT n2 n3 n0 n1 w c] (sz2 n2 n3 w t c) := by
  have dq : DQ (dmL n0 n1 (kn2 n2 n3 w)) := dq_L q0 q1 fun p hp => by
    simp only [kn2, List.mem_cons, List.not_mem_nil, or_false] at hp
    rcases hp with rfl | rfl
    · exact q2
    · exact q3
  refine ⟨fun i j t1 t2 h1 h2 e => ?_, fun i t1 h1 => ?_⟩
  · have l1 := (List.getElem?_eq_some_iff.mp h1).1
    have l2 := (List.getElem?_eq_some_iff.mp h2).1
    have l1 : i < 2 := l1
    have l2 : j < 2 := l2
    have hi : i = 0 ∨ i = 1 := by omega
    have hj : j = 0 ∨ j = 1 := by omega
    rcases hi with rfl | rfl <;> rcases hj with rfl | rfl
    · rfl
    · cases h1; cases h2; exact absurd e ne
    · cases h1; cases h2; exact absurd e.symm ne
    · rfl
  · have l1 := (List.getElem?_eq_some_iff.mp h1).1
    have l1 : i < 2 := l1
    have hi : i = 0 ∨ i = 1 := by omega
    rcases hi with rfl | rfl
    · cases h1
      have lw : (inT n2 n0 w t).ws.length ≤ 300 := by show (List.replicate t _ ++ [_]).length ≤ 300; simp; omega
      refine ⟨dmL n0 n1 (kn2 n2 n3 w), dfo_of dq rfl rfl (okw_in hw) lw (fun z hz => by rw [mem_rp hz]; exact List.mem_cons_self) (fun z hz => by rw [mem_rp hz]; exact List.mem_cons_self) (by show (rp w n0).length ≤ 4; simp; omega) (by show (rp w n0).length ≤ 4; simp; omega), okw_in hw, lw, fun v hv => ?_, ?_⟩
      · rcases List.mem_append.mp hv with m | m
        · rw [List.eq_of_mem_replicate m]; exact True.intro
        · rw [List.mem_singleton.mp m]
          refine ⟨by simp, by simp, fun _ => rfl, fun r hr => ?_⟩
          rw [List.mem_singleton.mp hr]
          exact ⟨by simp, fun p hp => by rw [List.mem_singleton.mp hp]; exact True.intro⟩
      · rw [bk_in hw ht]
        show sz2 n2 n3 w t c n2 = 1 + 2 * (rp w n0).length + szR _ _ (List.replicate t (Wo.p (.tell n0)) ++ [.r false [[.out 1]]]) + _
        rw [szR_app, szR_rep, List.length_replicate]
        show (if n2 = n2 then _ else _) = 1 + 2 * w + (t * 1 + (1 + (1 + 0 + 0) + 0)) + _
        rw [if_pos rfl]
        have hw' : w = 0 ∨ w = 1 := by omega
        rcases hw' with rfl | rfl
        · rw [if_pos rfl, if_pos rfl]; omega
        · rw [if_neg (by decide), if_neg (by decide)]; omega
    · cases h1
      have lw : (ouT n2 n3 n0 n1 w c).ws.length ≤ 300 := by show (_ :: List.replicate c _).length ≤ 300; simp; omega
      refine ⟨dmL n0 n1 (kn2 n2 n3 w), dfo_of dq rfl rfl (okw_ou hw) lw (fun z hz => (by cases hz)) (fun z hz => (by cases hz)) (by show 0 ≤ 4; omega) (by show 0 ≤ 4; omega), okw_ou hw, lw, fun v hv => ?_, ?_⟩
      · rcases List.mem_cons.mp hv with m | m
        · rw [m]
          refine ⟨by simp, by simp, fun e => (by cases e), fun r hr => ?_⟩
          simp only [List.mem_cons, List.not_mem_nil, or_false] at hr
          rcases hr with rfl | rfl
          · exact ⟨by simp, fun p hp => by rw [List.mem_singleton.mp hp]; exact True.intro⟩
          · exact ⟨by simp, fun p hp => by cases hp⟩
        · rw [List.eq_of_mem_replicate m]
          refine ⟨0, _, by omega, rfl, rfl, ?_, ?_, fun z hz => by rw [mem_rp hz]; exact q0.2.2, fun z hz => by rw [mem_rp hz]; exact q1.2.2⟩
          · rfl
          · show (rp w n1).length = (rp w n0).length
            simp
      · rw [bk_ou hw hc]
        show sz2 n2 n3 w t c n3 = 1 + 2 * 0 + szR _ _ (.r true [[.back], []] :: List.replicate c (Wo.p (.call n2 (rp w n0) (rp w n1)))) + _
        rw [szR_cons, szR_rep]
        show (if n3 = n2 then _ else if n3 = n3 then _ else _) = 1 + 2 * 0 + (1 + ((1 + w) + 0 + (0 + 0)) + c * (if n2 = n2 then _ else _)) + _
        rw [if_neg fun e => ne e.symm, if_pos rfl, if_pos rfl]
        unfold each
        omega
theorem cw_ma {N r : Nat} : ∀ v ∈ mainW n3 n1 N r, CW [inT n2 n0 w t, ouT n2 n3 n0 n1 w c] 2 v := by
  intro v hv
  rcases List.mem_cons.mp hv with m | m
  · rw [m]
    refine ⟨by simp, by simp, fun _ => rfl, fun r hr => ?_⟩
    rw [List.mem_singleton.mp hr]
    exact ⟨by simp, fun p hp => by rw [List.mem_singleton.mp hp]; exact True.intro⟩
  · rcases List.mem_append.mp m with m | m
    · rw [List.eq_of_mem_replicate m]; exact True.intro
    · rw [List.eq_of_mem_replicate m]
      exact ⟨1, _, by omega, rfl, rfl, rfl, rfl, fun z hz => (by cases hz), fun z hz => by cases hz⟩
/-- the program of two defs, where it stands -/
theorem prg2 {K : PySem.W.Frag} {Tg : Addr} {H : Hp} {u : V} {r m N : Nat} (q0 : Qs n0) (q1 : Qs n1) (q2 : Qs n2) (q3 : Qs n3) (ne : n2 ≠ n3) (hw : w ≤ 1) (ht : 1 ≤ t) (ht2 : t ≤ 20) (hc : 1 ≤ c) (hc2 : c ≤ 20) (hr : r ≤ 19) (hN : N ≤ 300) (eN : 298 + m = N + r * each t c w) (hT : GxR.TabG H Tg)
    (h : Tp K H u (progD [(inT n2 n0 w t).x, (ouT n2 n3 n0 n1 w c).x] ((mainW n3 n1 N r).map Wo.d))) : ∃ p, u = .ref p ∧ PrgH K Tg [inT n2 n0 w t, ouT n2 n3 n0 n1 w c] (sz2 n2 n3 w t c) H p (300 + m) := by
  obtain ⟨p, q, xs, rv, rfl, hP⟩ := pg_of h
  have dq : DQ (dmL n0 n1 (kn2 n2 n3 w)) := dq_L q0 q1 fun p hp => by
    simp only [kn2, List.mem_cons, List.not_mem_nil, or_false] at hp
    rcases hp with rfl | rfl
    · exact q2
    · exact q3
  have lm : (mainW n3 n1 N r).length ≤ 320 := by unfold mainW; simp; omega
  refine ⟨p, rfl, q, xs, rv, mainW n3 n1 N r, dmL n0 n1 (kn2 n2 n3 w), hP, hT, by show 2 ≤ 6; omega, ⟨dq, rfl, rw_of lm okw_ma, by show 2 ≤ 6; omega, fun x hx => ?_⟩, okw_ma, lm, cw_ma, ?_⟩
  · have hx : x = (inT n2 n0 w t).x ∨ x = (ouT n2 n3 n0 n1 w c).x := by simpa using hx
    rcases hx with rfl | rfl
    · have lw : (inT n2 n0 w t).ws.length ≤ 320 := by show (List.replicate t _ ++ [_]).length ≤ 320; simp; omega
      exact ⟨q2, fun z hz => by rw [mem_rp hz]; exact q0, fun z hz => by rw [mem_rp hz]; exact q0, by show (rp w n0).length ≤ 4; simp; omega, by show (rp w n0).length ≤ 4; simp; omega, rw_of lw (okw_in hw)⟩
    · have lw : (ouT n2 n3 n0 n1 w c).ws.length ≤ 320 := by show (_ :: List.replicate c _).length ≤ 320; simp; omega
      exact ⟨q3, fun z hz => (by cases hz), fun z hz => (by cases hz), by show 0 ≤ 4; omega, by show 0 ≤ 4; omega, rw_of lw (okw_ou hw)⟩
  · unfold mainW
    rw [szR_cons, szR_app, szR_rep, szR_rep]
    show 1 + (1 + 0 + 0) + (N * 1 + r * (if n3 = n2 then _ else if n3 = n3 then each t c w else 0)) = 300 + m
    rw [if_neg fun e => ne e.symm, if_pos rfl]
    omega
end
end K41

set_option maxHeartbeats 8000000
namespace K41
open PySem PySem.Spec PyProof.Rows L2 Kk RZ
/-! the long program -/
def inL (n2 x : Str) : TD := ⟨n2, [], [], List.replicate 9 (Wo.p (.tell x))⟩
def caL (a b : Str) : TD := ⟨a, [], [], List.replicate 9 (Wo.p (.call b [] []))⟩
def maL : List Wo := List.replicate 9 (Wo.p (.call odd8 [] []))
def T3 (n2 n3 x : Str) : List TD := [inL n2 x, caL n3 n2, caL odd8 n3]
def sz3 (n2 n3 : Str) (a : Str) : Nat := if a = n2 then 12 else if a = n3 then 110 else 992
def kn3 (n2 n3 : Str) : List (Str × Nat × Nat) := [(n2, 0, 0), (n3, 0, 0), (odd8, 0, 0)]
section
variable {n0 n1 n2 n3 : Str}
theorem okw_inL : ∀ v ∈ (inL n2 n0).ws, OkW (dmL n0 n1 (kn3 n2 n3)) v := fun v hv => by
  rw [List.eq_of_mem_replicate hv]; exact List.mem_cons_self
theorem okw_caL {a b : Str} (h : (b, 0, 0) ∈ kn3 n2 n3) : ∀ v ∈ (caL a b).ws, OkW (dmL n0 n1 (kn3 n2 n3)) v := fun v hv => by
  rw [List.eq_of_mem_replicate hv]; exact ⟨h, sub_0, sub_0⟩
theorem bk_inL : bk (inL n2 n0).x = 2 := by
  have oi := oth_iff (D := dmL n0 n0 (kn3 n2 n2)) (t := inL n2 n0) okw_inL
  have : Oth (inL n2 n0).x := oi.mpr ⟨n0, .inl ⟨.p (.tell n0), List.mem_replicate.mpr ⟨by omega, rfl⟩, List.mem_cons_self⟩, by simp [inL]⟩
  rw [bk_y this]; rfl
theorem bk_caL {a b : Str} : bk (caL a b).x = 1 := by
  have oi := oth_iff (D := dmL b b (kn3 b b)) (t := caL a b) (okw_caL List.mem_cons_self)
  have : ¬ Oth (caL a b).x := fun h => by
    obtain ⟨z, hz, nz⟩ := oi.mp h
    rcases hz with ⟨v, hv, hz⟩ | hz
    · rw [List.eq_of_mem_replicate hv] at hz; simp [Wo.bx, Pw.bx] at hz
    · cases hz
  rw [bk_n this]; rfl
theorem dq3 (q0 : Qs n0) (q1 : Qs n1) (q2 : Qs n2) (q3 : Qs n3) : DQ (dmL n0 n1 (kn3 n2 n3)) := dq_L q0 q1 fun p hp => by
  simp only [kn3, List.mem_cons, List.not_mem_nil, or_false] at hp
  rcases hp with rfl | rfl | rfl
  · exact q2
  · exact q3
  · exact qs_last
theorem tok3 (q0 : Qs n0) (q1 : Qs n1) (q2 : Qs n2) (q3 : Qs n3) (ne : n2 ≠ n3) (e2 : n2 ≠ odd8) (e3 : n3 ≠ odd8) : TOk (T3 n2 n3 n0) (sz3 n2 n3) := by
  have dq := dq3 q0 q1 q2 q3
  refine ⟨fun i j t1 t2 h1 h2 e => ?_, fun i t1 h1 => ?_⟩
  · have l1 := (List.getElem?_eq_some_iff.mp h1).1
    have l2 := (List.getElem?_eq_some_iff.mp h2).1
    have l1 : i < 3 := l1
    have l2 : j < 3 := l2
    have hi : i = 0 ∨ i = 1 ∨ i = 2 := by omega
    have hj : j = 0 ∨ j = 1 ∨ j = 2 := by omega
    rcases hi with rfl | rfl | rfl <;> rcases hj with rfl | rfl | rfl <;> cases h1 <;> cases h2
    · rfl
    · exact absurd e ne
    · exact absurd e e2
    · exact absurd e.symm ne
    · rfl
    · exact absurd e e3
    · exact absurd e.symm e2
    · exact absurd e.symm e3
    · rfl
  · have l1 := (List.getElem?_eq_some_iff.mp h1).1
    have l1 : i < 3 := l1
    have hi : i = 0 ∨ i = 1 ∨ i = 2 := by omega
    rcases hi with rfl | rfl | rfl
    · cases h1
      refine ⟨dmL n0 n1 (kn3 n2 n3), dfo_of dq rfl rfl okw_inL (by show 9 ≤ 300; decide) (fun z hz => (by cases hz)) (fun z hz => (by cases hz)) (by show 0 ≤ 4; decide) (by show 0 ≤ 4; decide), okw_inL, (by show 9 ≤ 300; decide), fun v hv => ?_, ?_⟩
      · rw [List.eq_of_mem_replicate hv]; exact True.intro
      · rw [bk_inL]
        show sz3 n2 n3 n2 = 1 + 2 * 0 + szR _ _ (List.replicate 9 (Wo.p (.tell n0))) + 2
        rw [szR_rep]
        show (if n2 = n2 then 12 else _) = _
        rw [if_pos rfl]; rfl
    · cases h1
      refine ⟨dmL n0 n1 (kn3 n2 n3), dfo_of dq rfl rfl (okw_caL List.mem_cons_self) (by show 9 ≤ 300; decide) (fun z hz => (by cases hz)) (fun z hz => (by cases hz)) (by show 0 ≤ 4; decide) (by show 0 ≤ 4; decide), okw_caL List.mem_cons_self, (by show 9 ≤ 300; decide), fun v hv => ?_, ?_⟩
      · rw [List.eq_of_mem_replicate hv]
        exact ⟨0, inL n2 n0, by omega, rfl, rfl, rfl, rfl, fun z hz => (by cases hz), fun z hz => (by cases hz)⟩
      · rw [bk_caL]
        show sz3 n2 n3 n3 = 1 + 2 * 0 + szR _ _ (List.replicate 9 (Wo.p (.call n2 [] []))) + 1
        rw [szR_rep]
        show (if n3 = n2 then 12 else if n3 = n3 then 110 else 992) = 1 + 2 * 0 + 9 * (if n2 = n2 then 12 else _) + 1
        rw [if_neg fun e => ne e.symm, if_pos rfl, if_pos rfl]
    · cases h1
      have m3 : (n3, 0, 0) ∈ kn3 n2 n3 := List.mem_cons_of_mem _ List.mem_cons_self
      refine ⟨dmL n0 n1 (kn3 n2 n3), dfo_of dq rfl rfl (okw_caL m3) (by show 9 ≤ 300; decide) (fun z hz => (by cases hz)) (fun z hz => (by cases hz)) (by show 0 ≤ 4; decide) (by show 0 ≤ 4; decide), okw_caL m3, (by show 9 ≤ 300; decide), fun v hv => ?_, ?_⟩
      · rw [List.eq_of_mem_replicate hv]
        exact ⟨1, caL n3 n2, by omega, rfl, rfl, rfl, rfl, fun z hz => (by cases hz), fun z hz => (by cases hz)⟩
      · rw [bk_caL]
        show sz3 n2 n3 odd8 = 1 + 2 * 0 + szR _ _ (List.replicate 9 (Wo.p (.call n3 [] []))) + 1
        rw [szR_rep]
        show (if odd8 = n2 then 12 else if odd8 = n3 then 110 else 992) = 1 + 2 * 0 + 9 * (if n3 = n2 then 12 else if n3 = n3 then 110 else 992) + 1
        rw [if_neg fun e => e2 e.symm, if_neg fun e => e3 e.symm, if_neg fun e => ne e.symm, if_pos rfl]
theorem prg3 {K : PySem.W.Frag} {Tg : Addr} {H : Hp} {u : V} (q0 : Qs n0) (q1 : Qs n1) (q2 : Qs n2) (q3 : Qs n3) (ne : n2 ≠ n3) (e2 : n2 ≠ odd8) (e3 : n3 ≠ odd8) (hT : GxR.TabG H Tg)
    (h : Tp K H u (progD ((T3 n2 n3 n0).map TD.x) (maL.map Wo.d))) : ∃ p, u = .ref p ∧ PrgH K Tg (T3 n2 n3 n0) (sz3 n2 n3) H p 8928 := by
  obtain ⟨p, q, xs, rv, rfl, hP⟩ := pg_of h
  have dq := dq3 q0 q1 q2 q3
  have m3 : (n3, 0, 0) ∈ kn3 n2 n3 := List.mem_cons_of_mem _ List.mem_cons_self
  have mo : (odd8, 0, 0) ∈ kn3 n2 n3 := List.mem_cons_of_mem _ (List.mem_cons_of_mem _ List.mem_cons_self)
  have okm : ∀ v ∈ maL, OkW (dmL n0 n1 (kn3 n2 n3)) v := fun v hv => by
    rw [List.eq_of_mem_replicate hv]; exact ⟨mo, sub_0, sub_0⟩
  refine ⟨p, rfl, q, xs, rv, maL, dmL n0 n1 (kn3 n2 n3), hP, hT, by show 3 ≤ 6; omega, ⟨dq, rfl, rw_of (by decide) okm, by show 3 ≤ 6; omega, fun x hx => ?_⟩, okm, by decide, fun v hv => ?_, ?_⟩
  · have hx : x = (inL n2 n0).x ∨ x = (caL n3 n2).x ∨ x = (caL odd8 n3).x := by simpa [T3] using hx
    rcases hx with rfl | rfl | rfl
    · exact ⟨q2, fun z hz => (by cases hz), fun z hz => (by cases hz), (by show 0 ≤ 4; omega), (by show 0 ≤ 4; omega), rw_of (by show 9 ≤ 320; decide) okw_inL⟩
    · exact ⟨q3, fun z hz => (by cases hz), fun z hz => (by cases hz), (by show 0 ≤ 4; omega), (by show 0 ≤ 4; omega), rw_of (by show 9 ≤ 320; decide) (okw_caL List.mem_cons_self)⟩
    · exact ⟨qs_last, fun z hz => (by cases hz), fun z hz => (by cases hz), (by show 0 ≤ 4; omega), (by show 0 ≤ 4; omega), rw_of (by show 9 ≤ 320; decide) (okw_caL m3)⟩
  · rw [List.eq_of_mem_replicate hv]
    exact ⟨2, caL odd8 n3, (by show 2 < 3; omega), rfl, rfl, rfl, rfl, fun z hz => (by cases hz), fun z hz => (by cases hz)⟩
  · unfold maL
    rw [szR_rep]
    show 9 * (if odd8 = n2 then 12 else if odd8 = n3 then 110 else 992) = 8928
    rw [if_neg fun e => e2 e.symm, if_neg fun e => e3 e.symm]
end
theorem PrgH.ex {K : PySem.W.Frag} {Tg : Addr} {T : List TD} {sz : Str → Nat} {H H' : Hp} {p : Addr} {n : Nat} {as : List Addr} (h : PrgH K Tg T sz H p n) (e : Ex as H H') : PrgH K Tg T sz H' p n := by
  obtain ⟨q, xs, rv, ws, D, hP, hT, r⟩ := h
  exact ⟨q, xs, rv, ws, D, hP.ex e, e.t _ hT, r⟩
theorem iteNS {c A B : Prop} [Decidable c] (hc : c) (h : B) : if (!decide c) = true then A else B := by rw [decide_eq_true hc]; exact iteF' h
/-- of any two or three defs -/
def spToldX (K : PySem.W.Frag) (Tg : Addr) : Sp := fun vs H Q E => ∃ (T : List TD) (sz : Str → Nat), TOk T sz ∧ (T.length = 2 ∨ T.length = 3) ∧ spTold K Tg T sz vs H Q E
def SzOk (w t c r : Nat) : Prop := w ≤ 1 ∧ 1 ≤ t ∧ t ≤ 20 ∧ 1 ≤ c ∧ c ≤ 20 ∧ r ≤ 19 ∧ 200 ≤ r * each t c w ∧ r * each t c w ≤ 298
theorem fsz {w t c r : Nat} (h : (decide (w ≤ 1) && decide (1 ≤ t) && decide (t ≤ 20) && decide (1 ≤ c) && decide (c ≤ 20) && decide (r ≤ 19) && decide (200 ≤ r * each t c w) && decide (r * each t c w ≤ 298)) = true) : SzOk w t c r := by
  simp only [Bool.and_eq_true, decide_eq_true_eq] at h
  obtain ⟨⟨⟨⟨⟨⟨⟨a, b⟩, c⟩, d⟩, e⟩, f⟩, g⟩, i⟩ := h
  exact ⟨a, b, c, d, e, f, g, i⟩
section
variable {P : Program} {w : World} {K : PySem.W.Frag} {mg : Str → Option Value} {base : Heap}
abbrev s_law : Stmt := topS 48
abbrev n_law : List Str := ["_law_script", "_law_k", "_law_deck_here", "_law_names_here", "_law_wide", "_law_sizes", "_law_more", "_law_due", "_law_program_here", "_law_long"]
theorem sc_law : FnScope n_law ["_law_script"] (defScope s_law) := ⟨rfl, rfl, rfl, by decide +kernel, rfl, by decide +kernel, by decide +kernel⟩
def spLaw (K : PySem.W.Frag) (T : Addr) : Sp := fun vs H Q _ => ∃ (s : Addr) (ns : List Int), vs = [.ref s] ∧ SqL K H s (ns.map V.int) ∧ ns.length ≤ 63 ∧ GxR.TabG H T ∧ ∀ H', Q (.bl true) H'
theorem ok_law {f f1 f2 f3 f4 f5 Tg : Addr} {fd d1 d2 d3 d4 d5 : FuncData} {k : Nat} (F : Fun K "law" "law" s_law f fd) (CD : Cl P w K mg base k "_law_deck" ["_law_script", "_law_k"] (spDeck K) f1 d1) (CW_ : Cl P w K mg base k "_law_draw" ["_law_deck_here", "_law_many"] spDraw f2 d2) (CN : Cl P w K mg base k "_law_names" ["_law_deck_here", "_law_many"] spNames f3 d3)
    (CP : Cl P w K mg base k "_law_program" ["_law_names_here", "_law_sizes", "_law_wide", "_law_more"] (spProgram K) f4 d4) (CT : Cl P w K mg base k "_law_told" ["_law_program_here"] (spToldX K Tg) f5 d5) (m_range : mg "range" = none) (m_max : mg "max" = none) (m_min : mg "min" = none) (m_len : mg "len" = none) :
    FnOk P w K mg base CX0 (k + 1) f fd ["_law_script"] (spLaw K Tg) := by
  refine F.ok sc_law (fun vs H Q E h => ?_) (fun cdv A outer s0 H vs Q E hr h => ?_)
  · obtain ⟨s, ns, rfl, _⟩ := h; rfl
  · obtain ⟨s, ns, rfl, hS, hl, hT, q⟩ := h
    refine ⟨_, (pss_cons (ps_for PassesOwn.never rfl (pi_range1 (by rfl) m_range (pa_cons (pe_callB (call_max2 rfl) (by rfl) m_max (by decide +kernel) (pa_cons pe_int (pa_cons (pe_callB (call_min2 rfl) (by rfl) m_min (by decide +kernel) (pa_cons (pe_callB call_len_seq (by rfl) m_len PySem.boot_len (pa_cons (pv 0) pa_nil)) (pa_cons pe_int pa_nil))) pa_nil))) pa_nil)) (pg_name (i := 1) sc_law.nd rfl (.inl rfl)) (pss_cons (ps_set (i := 2) sc_law.nd rfl (.inl rfl) (pe_call CD.g hr (by rfl) CD.m CD.k CD.b .nil pass0 (pa_cons (pv 0) (pa_cons (pv 1) pa_nil))))
      (pss_cons (ps_set (i := 3) sc_law.nd rfl (.inl rfl) (pe_call CN.g hr (by rfl) CN.m CN.k CN.b .nil pass0 (pa_cons (pv 2) (pa_cons pe_int pa_nil))))
      (pss_cons (ps_set (i := 4) sc_law.nd rfl (.inl rfl) (pe_call CW_.g hr (by rfl) CW_.m CW_.k CW_.b .nil pass0 (pa_cons (pv 2) (pa_cons pe_int pa_nil))))
      (pss_cons (ps_set (i := 5) sc_law.nd rfl (.inl rfl) (pe_ix ix_list (pe_lst (pa_cons (pe_tup (pa_cons pe_int (pa_cons pe_int (pa_cons pe_int pa_nil)))) (pa_cons (pe_tup (pa_cons pe_int (pa_cons pe_int (pa_cons pe_int pa_nil)))) (pa_cons (pe_tup (pa_cons pe_int (pa_cons pe_int (pa_cons pe_int pa_nil)))) (pa_cons (pe_tup (pa_cons pe_int (pa_cons pe_int (pa_cons pe_int pa_nil)))) (pa_cons (pe_tup (pa_cons pe_int (pa_cons pe_int (pa_cons pe_int pa_nil)))) pa_nil)))))) (pe_call CW_.g hr (by rfl) CW_.m CW_.k CW_.b .nil pass0 (pa_cons (pv 2) (pa_cons pe_int pa_nil))) (fun _ _ => rfl)))
      (pss_cons (ps_if (pt_cmpR op_eq (pv 4) pe_int (nomark _)) (pss_one (ps_set (i := 5) sc_law.nd rfl (.inl rfl) (pe_ix ix_list (pe_lst (pa_cons (pe_tup (pa_cons pe_int (pa_cons pe_int (pa_cons pe_int pa_nil)))) (pa_cons (pe_tup (pa_cons pe_int (pa_cons pe_int (pa_cons pe_int pa_nil)))) (pa_cons (pe_tup (pa_cons pe_int (pa_cons pe_int (pa_cons pe_int pa_nil)))) (pa_cons (pe_tup (pa_cons pe_int (pa_cons pe_int (pa_cons pe_int pa_nil)))) pa_nil))))) (pe_call CW_.g hr (by rfl) CW_.m CW_.k CW_.b .nil pass0 (pa_cons (pv 2) (pa_cons pe_int pa_nil))) (fun _ _ => rfl)))) pss_nil)
      (pss_cons (ps_for PassesOwn.never rfl (pi_list (pe_lst (pa_cons (pe_tup (pa_cons pe_int (pa_cons pe_int pa_nil))) (pa_cons (pe_tup (pa_cons pe_int (pa_cons pe_str pa_nil))) (pa_cons (pe_tup (pa_cons (pe_op op_add pe_int (pe_call CW_.g hr (by rfl) CW_.m CW_.k CW_.b .nil pass0 (pa_cons (pv 2) (pa_cons pe_int pa_nil)))) (pa_cons pe_str pa_nil))) pa_nil))))) (pg_tup rfl (pgs_cons (pg_name (i := 6) sc_law.nd rfl (.inl rfl)) (pgs_cons (pg_name (i := 7) sc_law.nd rfl (.inl rfl)) pgs_nil))) (pss_cons (ps_set (i := 8) sc_law.nd rfl (.inl rfl) (pe_call CP.g hr (by rfl) CP.m CP.k CP.b .nil pass0 (pa_cons (pv 3) (pa_cons (pv 5) (pa_cons (pv 4) (pa_cons (pv 6) pa_nil))))))
      (pss_one (ps_if (PW.pt (pw_or (pt_cmpR op_ne (pe_call CT.g hr (by rfl) CT.m CT.k CT.b .nil pass0 (pa_cons (pv 8) pa_nil)) (pv 7) (nomark _)) (pw_or1 (pt_cmpR op_ne (pe_call CT.g hr (by rfl) CT.m CT.k CT.b .nil pass0 (pa_cons (pv 8) pa_nil)) (pv 7) (nomark _))))) (pss_one (ps_ret pe_bl)) pss_nil))))
      (pss_cons (ps_set (i := 9) sc_law.nd rfl (.inl rfl) (PL.peK (K := K) (pl_tup (pls_cons (pl_tup (pls_cons (pl_at 3 2 (pv 3) (fun _ _ => rfl)) (pls_cons (pl_tup pls_nil (by decide)) (pls_cons (pl_tup pls_nil (by decide)) (pls_cons (pl_rep (pl_tup (pls_cons (pl_tup (pls_cons pl_str (pls_cons (pl_at 3 0 (pv 3) (fun _ _ => rfl)) pls_nil)) (by decide)) pls_nil) (by decide)) pl_int) pls_nil)))) (by decide)) pls_nil) (by decide)) rfl))
      (pss_cons (ps_set (i := 9) sc_law.nd rfl (.inl rfl) (PL.peK (K := K) (pl_cat (pl_vK (K := K) rfl 9 (pv 9)) (pl_tup (pls_cons (pl_tup (pls_cons (pl_at 3 3 (pv 3) (fun _ _ => rfl)) (pls_cons (pl_tup pls_nil (by decide)) (pls_cons (pl_tup pls_nil (by decide)) (pls_cons (pl_rep (pl_tup (pls_cons (pl_tup (pls_cons pl_str (pls_cons (pl_at 3 2 (pv 3) (fun _ _ => rfl)) (pls_cons (pl_tup pls_nil (by decide)) (pls_cons (pl_tup pls_nil (by decide)) pls_nil)))) (by decide)) pls_nil) (by decide)) pl_int) pls_nil)))) (by decide)) pls_nil) (by decide))) rfl))
      (pss_cons (ps_set (i := 9) sc_law.nd rfl (.inl rfl) (PL.peK (K := K) (pl_cat (pl_vK (K := K) rfl 9 (pv 9)) (pl_tup (pls_cons (pl_tup (pls_cons pl_str (pls_cons (pl_tup pls_nil (by decide)) (pls_cons (pl_tup pls_nil (by decide)) (pls_cons (pl_rep (pl_tup (pls_cons (pl_tup (pls_cons pl_str (pls_cons (pl_at 3 3 (pv 3) (fun _ _ => rfl)) (pls_cons (pl_tup pls_nil (by decide)) (pls_cons (pl_tup pls_nil (by decide)) pls_nil)))) (by decide)) pls_nil) (by decide)) pl_int) pls_nil)))) (by decide)) pls_nil) (by decide))) rfl))
      (pss_cons (ps_set (i := 8) sc_law.nd rfl (.inl rfl) (PL.peK (K := K) (pl_tup (pls_cons (pl_vK (K := K) rfl 9 (pv 9)) (pls_cons (pl_rep (pl_tup (pls_cons (pl_tup (pls_cons pl_str (pls_cons pl_str (pls_cons (pl_tup pls_nil (by decide)) (pls_cons (pl_tup pls_nil (by decide)) pls_nil)))) (by decide)) pls_nil) (by decide)) pl_int) pls_nil)) (by decide)) rfl))
      (pss_one (ps_if (pt_cmpR op_ne (pe_call CT.g hr (by rfl) CT.m CT.k CT.b .nil pass0 (pa_cons (pv 8) pa_nil)) pe_str (nomark _)) (pss_one (ps_ret pe_bl)) pss_nil)))))))))))))
      (pss_one (ps_ret pe_bl))), ?_⟩
    generalize hmx : (if (if (5 : Int) < ((ns.map V.int).length : Int) then (5 : Int) else ((ns.map V.int).length : Int)) > 1 then (if (5 : Int) < ((ns.map V.int).length : Int) then (5 : Int) else ((ns.map V.int).length : Int)) else 1) = mx0
    have hm : 0 ≤ mx0 ∧ mx0 < 2 ^ 62 := by
      rw [← hmx]
      split
      · split <;> omega
      · omega
    refine ⟨.ref s, rfl, s, _, rfl, .inl hS, _, 5, rfl, 1, _, rfl, mx0, by rw [← hmx], by omega, hm.2, for_range (lo := 0) (n := mx0.toNat) (fun i σ H2 => Ex [] H H2 ∧ ∃ y1 y2 y3 y4 y5 y6 y7 y8 y9, σ = [some (.ref s), y1, y2, y3, y4, y5, y6, y7, y8, y9]) ⟨.refl, _, _, _, _, _, _, _, _, _, rfl⟩ ?_ ?_⟩
    · rintro i σ H2 hi ⟨x2, y1, y2, y3, y4, y5, y6, y7, y8, y9, rfl⟩
      refine ⟨.ref s, rfl, .int (0 + (i : Int)), rfl, s, ns, i, by simp, x2.seqL hS, fun H3 d nd x3 D3 => ?_⟩
      refine ⟨.ref d, rfl, d, 4, 0, rfl, D3, by omega, by omega, fun H4 nl ws nnl x4 D4 hnl lws nms ndp _ => ?_⟩
      obtain ⟨n0, n1, n2, n3, rfl⟩ : ∃ n0 n1 n2 n3, ws = [n0, n1, n2, n3] := by
        match ws, lws with
        | [a, b, c, e], _ => exact ⟨a, b, c, e, rfl⟩
      have q0 := (nms n0 (by simp)).qs
      have q1 := (nms n1 (by simp)).qs
      have q2 := (nms n2 (by simp)).qs
      have q3 := (nms n3 (by simp)).qs
      have o2 := (nms n2 (by simp)).odd
      have o3 := (nms n3 (by simp)).odd
      have ne : n2 ≠ n3 := by
        intro e
        simp [e] at ndp
      have nld : nl ≠ d := fun z => by
        obtain ⟨_, q⟩ := D3.some
        rw [z, q] at nnl; cases nnl
      refine ⟨.ref d, rfl, d, 2, 10, rfl, D4, by omega, by decide, by decide, fun H5 wv w0 w1 x5 D5 => ?_⟩
      refine ⟨(by show 3 ≤ sizeLine; decide), fun at0 nat0 => ⟨(by show 3 ≤ sizeLine; decide), fun at1 nat1 => ⟨(by show 3 ≤ sizeLine; decide), fun at2 nat2 => ⟨(by show 3 ≤ sizeLine; decide), fun at3 nat3 => ⟨(by show 3 ≤ sizeLine; decide), fun at4 nat4 => ⟨(by show 5 ≤ sizeLine; decide), fun aL naL => ?_⟩⟩⟩⟩⟩⟩
      obtain ⟨xat0, hat0⟩ := nw (o := .tup [V.int 8, .int 5, .int 4]) nat0
      obtain ⟨xat1, hat1⟩ := nw (o := .tup [V.int 6, .int 6, .int 4]) nat1
      obtain ⟨xat2, hat2⟩ := nw (o := .tup [V.int 4, .int 6, .int 5]) nat2
      obtain ⟨xat3, hat3⟩ := nw (o := .tup [V.int 12, .int 3, .int 5]) nat3
      obtain ⟨xat4, hat4⟩ := nw (o := .tup [V.int 11, .int 4, .int 4]) nat4
      obtain ⟨xaL, haL⟩ := nw (o := .lst [V.ref at0, V.ref at1, V.ref at2, V.ref at3, V.ref at4]) naL
      have ax : Ex [] H5 _ := (((((xat0).trans xat1).trans xat2).trans xat3).trans xat4).trans xaL
      refine ⟨.ref d, rfl, d, 5, 11, rfl, D5.ex ax (by simp), by omega, by decide, by decide, fun aH av av0 av1 axd aD => ?_⟩
      have sat0 : SqT K aH at0 [V.int 8, .int 5, .int 4] := axd.seqT ((((((xat1).trans xat2).trans xat3).trans xat4).trans xaL).seqT (.of hat0 : SqT K _ at0 [V.int 8, .int 5, .int 4]))
      have sat1 : SqT K aH at1 [V.int 6, .int 6, .int 4] := axd.seqT (((((xat2).trans xat3).trans xat4).trans xaL).seqT (.of hat1 : SqT K _ at1 [V.int 6, .int 6, .int 4]))
      have sat2 : SqT K aH at2 [V.int 4, .int 6, .int 5] := axd.seqT ((((xat3).trans xat4).trans xaL).seqT (.of hat2 : SqT K _ at2 [V.int 4, .int 6, .int 5]))
      have sat3 : SqT K aH at3 [V.int 12, .int 3, .int 5] := axd.seqT (((xat4).trans xaL).seqT (.of hat3 : SqT K _ at3 [V.int 12, .int 3, .int 5]))
      have sat4 : SqT K aH at4 [V.int 11, .int 4, .int 4] := axd.seqT ((xaL).seqT (.of hat4 : SqT K _ at4 [V.int 11, .int 4, .int 4]))
      have aLd : aL ≠ d := fun z => by
        obtain ⟨_, q⟩ := D5.some
        have := (((((xat0).trans xat1).trans xat2).trans xat3).trans xat4).f _ naL
        rw [z, q] at this; cases this
      have hLa := axd.lst haL (by simpa using aLd)
      obtain ⟨sp, t, c, r, eat, hsp, hsz⟩ : ∃ (sp : Addr) (t c r : Nat), atI [V.ref at0, V.ref at1, V.ref at2, V.ref at3, V.ref at4] av = some (.ref sp) ∧ SqT K aH sp [V.int (t : Nat), .int (c : Nat), .int (r : Nat)] ∧ SzOk 0 t c r := by
        have hv : av = 0 ∨ av = 1 ∨ av = 2 ∨ av = 3 ∨ av = 4 := by omega
        rcases hv with rfl | rfl | rfl | rfl | rfl
        · exact ⟨at0, 8, 5, 4, atN (j := 0) rfl, sat0, fsz (by decide)⟩
        · exact ⟨at1, 6, 6, 4, atN (j := 1) rfl, sat1, fsz (by decide)⟩
        · exact ⟨at2, 4, 6, 5, atN (j := 2) rfl, sat2, fsz (by decide)⟩
        · exact ⟨at3, 12, 3, 5, atN (j := 3) rfl, sat3, fsz (by decide)⟩
        · exact ⟨at4, 11, 4, 4, atN (j := 4) rfl, sat4, fsz (by decide)⟩
      refine ⟨aL, _, _, .ref sp, rfl, rfl, .of hLa, eat, ?_⟩
      have x45 : Ex [d] H4 aH := (x5.trans (ax.nil (ys := [d]))).trans axd
      have hw : wv = 0 ∨ wv = 1 := by omega
      rcases hw with rfl | rfl
      · refine ⟨_, rfl, rfl, _, rfl, itN (by decide) ?_⟩
        have x4B : ∀ HB, Ex [d] aH HB → HB nl = some (.lst ([n0, n1, n2, n3].map V.str)) := fun HB x => (x45.trans x).lst hnl (by simpa using nld)
        have x3a : Ex [d] H3 aH := x4.trans x45
        obtain ⟨w1, t1, t2, c1, c2, r1, e1, e2⟩ := hsz
        refine ⟨(by show 2 ≤ sizeLine; decide), fun i1 ni1 => ⟨(by show 2 ≤ sizeLine; decide), fun i2 ni2 => ?_⟩⟩
        obtain ⟨xi1, hi1⟩ := nw (o := .tup [V.int 0, .int 300]) ni1
        obtain ⟨xi2, hi2⟩ := nw (o := .tup [V.int 1, .str (Str.ofString "long")]) ni2
        refine ⟨.ref d, rfl, d, 4, 12, rfl, aD.ex (xi1.trans xi2) (by simp), by omega, by decide, by decide, fun H9 dv dv0 dv1 x9 D9 => ?_⟩
        refine ⟨_, _, rfl, rfl, (by show 2 ≤ sizeLine; decide), fun i3 ni3 => ⟨(by show 3 ≤ sizeLine; decide), fun LL nLL => ?_⟩⟩
        obtain ⟨xi3, hi3⟩ := nw (o := .tup [V.int (1 + dv), .str (Str.ofString "long")]) ni3
        obtain ⟨xLL, hLL⟩ := nw (o := .lst [V.ref i1, .ref i2, .ref i3]) nLL
        have xa : Ex [d] aH _ := (((xi1.trans xi2).nil (ys := [d])).trans x9).trans ((xi3.trans xLL).nil (ys := [d]))
        have s1 := (x9.trans ((xi3.trans xLL).nil (ys := [d]))).seqT (xi2.seqT (.of hi1) : SqT K _ i1 [V.int 0, .int 300])
        have s2 := (x9.trans ((xi3.trans xLL).nil (ys := [d]))).seqT (.of hi2 : SqT K _ i2 [V.int 1, .str (Str.ofString "long")])
        have s3 := xLL.seqT (.of hi3 : SqT K _ i3 [V.int (1 + dv), .str (Str.ofString "long")])
        have x3B : Ex [d] H3 _ := (x3a).trans xa
        have hspB := xa.seqT hsp
        generalize upd (upd H9 i3 (.tup [V.int (1 + dv), .str (Str.ofString "long")])) LL (.lst [V.ref i1, .ref i2, .ref i3]) = HB at xa hLL s1 s2 s3 x3B hspB ⊢
        have hnlB := x4B HB xa
        have x2B : Ex [] H2 HB := Ex.own nd x3 x3B
        have hTB := x2B.t _ (x2.t _ hT)
        refine ⟨LL, rfl, ⟨_, .of hLL⟩, for_list (a := LL) (xs := [V.ref i1, .ref i2, .ref i3]) (fun j σ H => ∃ (y6 y7 y8 : Option V), σ = [some (.ref s), some (.int (0 + (i : Int))), some (.ref d), some (.ref nl), some (.int ((0 : Nat) : Int)), some (.ref sp), y6, y7, y8, y9] ∧ Ex [] HB H) ⟨_, _, _, rfl, .refl⟩ (fun j σ H _ ⟨_, _, _, _, x⟩ => .of (x.lst hLL (by simp))) (fun j xv σ H10 hx ⟨y6, y7, y8, eσ, x10⟩ => ?_) (fun σ H10 ⟨y6, y7, y8, eσ, x10⟩ => ?_)⟩
        · subst eσ
          obtain ⟨tt, m, due, rfl, hs, hdue⟩ : ∃ (tt : Addr) (m : Nat) (due : V), xv = .ref tt ∧ SqT K HB tt [.int (m : Nat), due] ∧ ((m = 0 ∧ due = .int 300) ∨ (1 ≤ m ∧ m ≤ 4 ∧ due = .str (Str.ofString "long"))) := by
            have hj : j < 3 := (List.getElem?_eq_some_iff.mp hx).1
            have hj : j = 0 ∨ j = 1 ∨ j = 2 := by omega
            rcases hj with rfl | rfl | rfl
            · cases hx; exact ⟨i1, 0, _, rfl, s1, .inl ⟨rfl, rfl⟩⟩
            · cases hx; exact ⟨i2, 1, _, rfl, s2, .inr ⟨by omega, by omega, rfl⟩⟩
            · cases hx
              obtain ⟨dn, hdn⟩ : ∃ dn : Nat, dv = (dn : Int) := ⟨dv.toNat, by omega⟩
              subst hdn
              refine ⟨i3, 1 + dn, _, rfl, ?_, .inr ⟨by omega, by omega, rfl⟩⟩
              rw [show (((1 + dn : Nat)) : Int) = 1 + (dn : Int) by omega]; exact s3
          have m4 : m ≤ 4 := by omega
          refine ⟨tt, _, rfl, x10.seqT hs, rfl, _, _, rfl, _, _, rfl, rfl, ?_⟩
          have eN : 298 + m = (298 + m - r * each t c 0) + r * each t c 0 := by omega
          refine ⟨.ref nl, rfl, .ref sp, rfl, .int ((0 : Nat) : Int), rfl, .int (m : Nat), rfl, nl, sp, n0, n1, n2, n3, t, c, r, 0, m, _, rfl, x10.lst hnlB (by simp), x10.seqT hspB, by omega, t2, c2, by omega, by omega, eN, by omega, fun H11 u x11 tu => ?_⟩
          have x2c := x2B.trans (x10.trans x11)
          obtain ⟨p, rfl, hPr⟩ := prg2 q0 q1 q2 q3 ne (by omega) t1 t2 c1 c2 r1 (by omega) eN (x2c.t _ (x2.t _ hT)) tu
          have tk := tok2 q0 q1 q2 q3 ne (by omega : 0 ≤ 1) t1 t2 c1 c2
          rcases hdue with ⟨rfl, rfl⟩ | ⟨m1, _, rfl⟩
          · refine ⟨.ref p, rfl, _, _, tk, .inl rfl, p, 300 + 0, rfl, hPr, fun big => absurd big (by omega), fun _ H12 x12 => ?_⟩
            refine ⟨.int 300, rfl, rfl, _, rfl, iteNS rfl ?_⟩
            refine ⟨.ref p, rfl, _, _, tk, .inl rfl, p, 300 + 0, rfl, hPr.ex x12, fun big => absurd big (by omega), fun _ H13 x13 => ?_⟩
            refine ⟨.int 300, rfl, rfl, _, rfl, iteNS rfl ?_⟩
            exact ⟨_, _, _, rfl, ((x10.trans x11).trans x12).trans x13⟩
          · refine ⟨.ref p, rfl, _, _, tk, .inl rfl, p, 300 + m, rfl, hPr, fun _ H12 x12 => ?_, fun sm => absurd sm (by omega)⟩
            refine ⟨.str (Str.ofString "long"), rfl, rfl, _, rfl, iteNS rfl ?_⟩
            refine ⟨.ref p, rfl, _, _, tk, .inl rfl, p, 300 + m, rfl, hPr.ex x12, fun _ H13 x13 => ?_, fun sm => absurd sm (by omega)⟩
            refine ⟨.str (Str.ofString "long"), rfl, rfl, _, rfl, iteNS rfl ?_⟩
            exact ⟨_, _, _, rfl, ((x10.trans x11).trans x12).trans x13⟩
        · subst eσ
          have hnl0 := x10.lst hnlB (by simp)
          refine ⟨.tuple [(inL n2 n0).x.d], ⟨_, rfl, _, _, rfl, ⟨_, rfl, _, _, rfl, ⟨nl, [n0, n1, n2, n3], n2, rfl, hnl0, rfl, rfl⟩, _, _, rfl, ⟨_, rfl, rfl⟩, _, _, rfl, ⟨_, rfl, rfl⟩, _, _, rfl, ⟨[(Pw.tell n0).d], 9, rfl, ⟨_, rfl, _, _, rfl, ⟨_, rfl, _, _, rfl, rfl, _, _, rfl, ⟨nl, [n0, n1, n2, n3], n0, rfl, hnl0, rfl, rfl⟩, rfl⟩, rfl⟩, rfl, by simp, (by show 1 ≤ 1000; decide), by decide, by decide⟩, rfl⟩, rfl⟩, fun u1 G1 xg1 tu1 => ?_⟩
          have hnl1 := xg1.lst hnl0 (by simp)
          refine ⟨.tuple ([(inL n2 n0).x.d] ++ [(caL n3 n2).x.d]), ⟨_, _, rfl, ⟨u1, rfl, tu1⟩, ⟨_, rfl, _, _, rfl, ⟨_, rfl, _, _, rfl, ⟨nl, [n0, n1, n2, n3], n3, rfl, hnl1, rfl, rfl⟩, _, _, rfl, ⟨_, rfl, rfl⟩, _, _, rfl, ⟨_, rfl, rfl⟩, _, _, rfl, ⟨[(Pw.call n2 [] []).d], 9, rfl, ⟨_, rfl, _, _, rfl, ⟨_, rfl, _, _, rfl, rfl, _, _, rfl, ⟨nl, [n0, n1, n2, n3], n2, rfl, hnl1, rfl, rfl⟩, _, _, rfl, ⟨_, rfl, rfl⟩, _, _, rfl, ⟨_, rfl, rfl⟩, rfl⟩, rfl⟩, rfl, by simp, (by show 1 ≤ 1000; decide), by decide, by decide⟩, rfl⟩, rfl⟩, (by show 2 ≤ 10000; decide)⟩, fun u2 G2 xg2 tu2 => ?_⟩
          have hnl2 := xg2.lst hnl1 (by simp)
          refine ⟨.tuple (([(inL n2 n0).x.d] ++ [(caL n3 n2).x.d]) ++ [(caL odd8 n3).x.d]), ⟨_, _, rfl, ⟨u2, rfl, tu2⟩, ⟨_, rfl, _, _, rfl, ⟨_, rfl, _, _, rfl, rfl, _, _, rfl, ⟨_, rfl, rfl⟩, _, _, rfl, ⟨_, rfl, rfl⟩, _, _, rfl, ⟨[(Pw.call n3 [] []).d], 9, rfl, ⟨_, rfl, _, _, rfl, ⟨_, rfl, _, _, rfl, rfl, _, _, rfl, ⟨nl, [n0, n1, n2, n3], n3, rfl, hnl2, rfl, rfl⟩, _, _, rfl, ⟨_, rfl, rfl⟩, _, _, rfl, ⟨_, rfl, rfl⟩, rfl⟩, rfl⟩, rfl, by simp, (by show 1 ≤ 1000; decide), by decide, by decide⟩, rfl⟩, rfl⟩, (by show 3 ≤ 10000; decide)⟩, fun u3 G3 xg3 tu3 => ?_⟩
          refine ⟨progD ((T3 n2 n3 n0).map TD.x) (maL.map Wo.d), ⟨_, rfl, _, _, rfl, ⟨u3, rfl, tu3⟩, _, _, rfl, ⟨[(Pw.call odd8 [] []).d], 9, rfl, ⟨_, rfl, _, _, rfl, ⟨_, rfl, _, _, rfl, rfl, _, _, rfl, rfl, _, _, rfl, ⟨_, rfl, rfl⟩, _, _, rfl, ⟨_, rfl, rfl⟩, rfl⟩, rfl⟩, rfl, by simp, (by show 1 ≤ 1000; decide), by decide, by decide⟩, rfl⟩, fun u4 G4 xg4 tu4 => ?_⟩
          have x2d := x2B.trans ((((x10.trans xg1).trans xg2).trans xg3).trans xg4)
          obtain ⟨p, rfl, hPr⟩ := prg3 (n1 := n1) q0 q1 q2 q3 ne o2 o3 (x2d.t _ (x2.t _ hT)) tu4
          refine ⟨.ref p, rfl, _, _, tok3 (n1 := n1) q0 q1 q2 q3 ne o2 o3, .inr rfl, p, 8928, rfl, hPr, fun _ H12 x12 => ?_, fun sm => absurd sm (by decide)⟩
          refine ⟨rfl, _, rfl, iteNS rfl ?_⟩
          exact ⟨(x2.trans x2d).trans x12, _, _, _, _, _, _, _, _, _, rfl⟩
      · refine ⟨_, rfl, rfl, _, rfl, itD rfl ?_⟩
        refine ⟨(by show 3 ≤ sizeLine; decide), fun bt0 nbt0 => ⟨(by show 3 ≤ sizeLine; decide), fun bt1 nbt1 => ⟨(by show 3 ≤ sizeLine; decide), fun bt2 nbt2 => ⟨(by show 3 ≤ sizeLine; decide), fun bt3 nbt3 => ⟨(by show 4 ≤ sizeLine; decide), fun bL nbL => ?_⟩⟩⟩⟩⟩
        obtain ⟨xbt0, hbt0⟩ := nw (o := .tup [V.int 7, .int 4, .int 4]) nbt0
        obtain ⟨xbt1, hbt1⟩ := nw (o := .tup [V.int 3, .int 6, .int 4]) nbt1
        obtain ⟨xbt2, hbt2⟩ := nw (o := .tup [V.int 8, .int 3, .int 5]) nbt2
        obtain ⟨xbt3, hbt3⟩ := nw (o := .tup [V.int 5, .int 7, .int 3]) nbt3
        obtain ⟨xbL, hbL⟩ := nw (o := .lst [V.ref bt0, V.ref bt1, V.ref bt2, V.ref bt3]) nbL
        have bx : Ex [] aH _ := ((((xbt0).trans xbt1).trans xbt2).trans xbt3).trans xbL
        refine ⟨.ref d, rfl, d, 4, 12, rfl, aD.ex bx (by simp), by omega, by decide, by decide, fun bH bv bv0 bv1 bxd bD => ?_⟩
        have sbt0 : SqT K bH bt0 [V.int 7, .int 4, .int 4] := bxd.seqT (((((xbt1).trans xbt2).trans xbt3).trans xbL).seqT (.of hbt0 : SqT K _ bt0 [V.int 7, .int 4, .int 4]))
        have sbt1 : SqT K bH bt1 [V.int 3, .int 6, .int 4] := bxd.seqT ((((xbt2).trans xbt3).trans xbL).seqT (.of hbt1 : SqT K _ bt1 [V.int 3, .int 6, .int 4]))
        have sbt2 : SqT K bH bt2 [V.int 8, .int 3, .int 5] := bxd.seqT (((xbt3).trans xbL).seqT (.of hbt2 : SqT K _ bt2 [V.int 8, .int 3, .int 5]))
        have sbt3 : SqT K bH bt3 [V.int 5, .int 7, .int 3] := bxd.seqT ((xbL).seqT (.of hbt3 : SqT K _ bt3 [V.int 5, .int 7, .int 3]))
        have bLd : bL ≠ d := fun z => by
          obtain ⟨_, q⟩ := aD.some
          have := ((((xbt0).trans xbt1).trans xbt2).trans xbt3).f _ nbL
          rw [z, q] at this; cases this
        have hLb := bxd.lst hbL (by simpa using bLd)
        obtain ⟨sp, t, c, r, eat, hsp, hsz⟩ : ∃ (sp : Addr) (t c r : Nat), atI [V.ref bt0, V.ref bt1, V.ref bt2, V.ref bt3] bv = some (.ref sp) ∧ SqT K bH sp [V.int (t : Nat), .int (c : Nat), .int (r : Nat)] ∧ SzOk 1 t c r := by
          have hv : bv = 0 ∨ bv = 1 ∨ bv = 2 ∨ bv = 3 := by omega
          rcases hv with rfl | rfl | rfl | rfl
          · exact ⟨bt0, 7, 4, 4, atN (j := 0) rfl, sbt0, fsz (by decide)⟩
          · exact ⟨bt1, 3, 6, 4, atN (j := 1) rfl, sbt1, fsz (by decide)⟩
          · exact ⟨bt2, 8, 3, 5, atN (j := 2) rfl, sbt2, fsz (by decide)⟩
          · exact ⟨bt3, 5, 7, 3, atN (j := 3) rfl, sbt3, fsz (by decide)⟩
        refine ⟨bL, _, _, .ref sp, rfl, rfl, .of hLb, eat, ?_⟩
        have x46 : Ex [d] H4 bH := (x45.trans (bx.nil (ys := [d]))).trans bxd
        have x4B : ∀ HB, Ex [d] bH HB → HB nl = some (.lst ([n0, n1, n2, n3].map V.str)) := fun HB x => (x46.trans x).lst hnl (by simpa using nld)
        have x3b : Ex [d] H3 bH := x4.trans x46
        obtain ⟨w1, t1, t2, c1, c2, r1, e1, e2⟩ := hsz
        refine ⟨(by show 2 ≤ sizeLine; decide), fun i1 ni1 => ⟨(by show 2 ≤ sizeLine; decide), fun i2 ni2 => ?_⟩⟩
        obtain ⟨xi1, hi1⟩ := nw (o := .tup [V.int 0, .int 300]) ni1
        obtain ⟨xi2, hi2⟩ := nw (o := .tup [V.int 1, .str (Str.ofString "long")]) ni2
        refine ⟨.ref d, rfl, d, 4, 13, rfl, bD.ex (xi1.trans xi2) (by simp), by omega, by decide, by decide, fun H9 dv dv0 dv1 x9 D9 => ?_⟩
        refine ⟨_, _, rfl, rfl, (by show 2 ≤ sizeLine; decide), fun i3 ni3 => ⟨(by show 3 ≤ sizeLine; decide), fun LL nLL => ?_⟩⟩
        obtain ⟨xi3, hi3⟩ := nw (o := .tup [V.int (1 + dv), .str (Str.ofString "long")]) ni3
        obtain ⟨xLL, hLL⟩ := nw (o := .lst [V.ref i1, .ref i2, .ref i3]) nLL
        have xa : Ex [d] bH _ := (((xi1.trans xi2).nil (ys := [d])).trans x9).trans ((xi3.trans xLL).nil (ys := [d]))
        have s1 := (x9.trans ((xi3.trans xLL).nil (ys := [d]))).seqT (xi2.seqT (.of hi1) : SqT K _ i1 [V.int 0, .int 300])
        have s2 := (x9.trans ((xi3.trans xLL).nil (ys := [d]))).seqT (.of hi2 : SqT K _ i2 [V.int 1, .str (Str.ofString "long")])
        have s3 := xLL.seqT (.of hi3 : SqT K _ i3 [V.int (1 + dv), .str (Str.ofString "long")])
        have x3B : Ex [d] H3 _ := (x3b).trans xa
        have hspB := xa.seqT hsp
        generalize upd (upd H9 i3 (.tup [V.int (1 + dv), .str (Str.ofString "long")])) LL (.lst [V.ref i1, .ref i2, .ref i3]) = HB at xa hLL s1 s2 s3 x3B hspB ⊢
        have hnlB := x4B HB xa
        have x2B : Ex [] H2 HB := Ex.own nd x3 x3B
        have hTB := x2B.t _ (x2.t _ hT)
        refine ⟨LL, rfl, ⟨_, .of hLL⟩, for_list (a := LL) (xs := [V.ref i1, .ref i2, .ref i3]) (fun j σ H => ∃ (y6 y7 y8 : Option V), σ = [some (.ref s), some (.int (0 + (i : Int))), some (.ref d), some (.ref nl), some (.int ((1 : Nat) : Int)), some (.ref sp), y6, y7, y8, y9] ∧ Ex [] HB H) ⟨_, _, _, rfl, .refl⟩ (fun j σ H _ ⟨_, _, _, _, x⟩ => .of (x.lst hLL (by simp))) (fun j xv σ H10 hx ⟨y6, y7, y8, eσ, x10⟩ => ?_) (fun σ H10 ⟨y6, y7, y8, eσ, x10⟩ => ?_)⟩
        · subst eσ
          obtain ⟨tt, m, due, rfl, hs, hdue⟩ : ∃ (tt : Addr) (m : Nat) (due : V), xv = .ref tt ∧ SqT K HB tt [.int (m : Nat), due] ∧ ((m = 0 ∧ due = .int 300) ∨ (1 ≤ m ∧ m ≤ 4 ∧ due = .str (Str.ofString "long"))) := by
            have hj : j < 3 := (List.getElem?_eq_some_iff.mp hx).1
            have hj : j = 0 ∨ j = 1 ∨ j = 2 := by omega
            rcases hj with rfl | rfl | rfl
            · cases hx; exact ⟨i1, 0, _, rfl, s1, .inl ⟨rfl, rfl⟩⟩
            · cases hx; exact ⟨i2, 1, _, rfl, s2, .inr ⟨by omega, by omega, rfl⟩⟩
            · cases hx
              obtain ⟨dn, hdn⟩ : ∃ dn : Nat, dv = (dn : Int) := ⟨dv.toNat, by omega⟩
              subst hdn
              refine ⟨i3, 1 + dn, _, rfl, ?_, .inr ⟨by omega, by omega, rfl⟩⟩
              rw [show (((1 + dn : Nat)) : Int) = 1 + (dn : Int) by omega]; exact s3
          have m4 : m ≤ 4 := by omega
          refine ⟨tt, _, rfl, x10.seqT hs, rfl, _, _, rfl, _, _, rfl, rfl, ?_⟩
          have eN : 298 + m = (298 + m - r * each t c 1) + r * each t c 1 := by omega
          refine ⟨.ref nl, rfl, .ref sp, rfl, .int ((1 : Nat) : Int), rfl, .int (m : Nat), rfl, nl, sp, n0, n1, n2, n3, t, c, r, 1, m, _, rfl, x10.lst hnlB (by simp), x10.seqT hspB, by omega, t2, c2, by omega, by omega, eN, by omega, fun H11 u x11 tu => ?_⟩
          have x2c := x2B.trans (x10.trans x11)
          obtain ⟨p, rfl, hPr⟩ := prg2 q0 q1 q2 q3 ne (by omega) t1 t2 c1 c2 r1 (by omega) eN (x2c.t _ (x2.t _ hT)) tu
          have tk := tok2 q0 q1 q2 q3 ne (by omega : 1 ≤ 1) t1 t2 c1 c2
          rcases hdue with ⟨rfl, rfl⟩ | ⟨m1, _, rfl⟩
          · refine ⟨.ref p, rfl, _, _, tk, .inl rfl, p, 300 + 0, rfl, hPr, fun big => absurd big (by omega), fun _ H12 x12 => ?_⟩
            refine ⟨.int 300, rfl, rfl, _, rfl, iteNS rfl ?_⟩
            refine ⟨.ref p, rfl, _, _, tk, .inl rfl, p, 300 + 0, rfl, hPr.ex x12, fun big => absurd big (by omega), fun _ H13 x13 => ?_⟩
            refine ⟨.int 300, rfl, rfl, _, rfl, iteNS rfl ?_⟩
            exact ⟨_, _, _, rfl, ((x10.trans x11).trans x12).trans x13⟩
          · refine ⟨.ref p, rfl, _, _, tk, .inl rfl, p, 300 + m, rfl, hPr, fun _ H12 x12 => ?_, fun sm => absurd sm (by omega)⟩
            refine ⟨.str (Str.ofString "long"), rfl, rfl, _, rfl, iteNS rfl ?_⟩
            refine ⟨.ref p, rfl, _, _, tk, .inl rfl, p, 300 + m, rfl, hPr.ex x12, fun _ H13 x13 => ?_, fun sm => absurd sm (by omega)⟩
            refine ⟨.str (Str.ofString "long"), rfl, rfl, _, rfl, iteNS rfl ?_⟩
            exact ⟨_, _, _, rfl, ((x10.trans x11).trans x12).trans x13⟩
        · subst eσ
          have hnl0 := x10.lst hnlB (by simp)
          refine ⟨.tuple [(inL n2 n0).x.d], ⟨_, rfl, _, _, rfl, ⟨_, rfl, _, _, rfl, ⟨nl, [n0, n1, n2, n3], n2, rfl, hnl0, rfl, rfl⟩, _, _, rfl, ⟨_, rfl, rfl⟩, _, _, rfl, ⟨_, rfl, rfl⟩, _, _, rfl, ⟨[(Pw.tell n0).d], 9, rfl, ⟨_, rfl, _, _, rfl, ⟨_, rfl, _, _, rfl, rfl, _, _, rfl, ⟨nl, [n0, n1, n2, n3], n0, rfl, hnl0, rfl, rfl⟩, rfl⟩, rfl⟩, rfl, by simp, (by show 1 ≤ 1000; decide), by decide, by decide⟩, rfl⟩, rfl⟩, fun u1 G1 xg1 tu1 => ?_⟩
          have hnl1 := xg1.lst hnl0 (by simp)
          refine ⟨.tuple ([(inL n2 n0).x.d] ++ [(caL n3 n2).x.d]), ⟨_, _, rfl, ⟨u1, rfl, tu1⟩, ⟨_, rfl, _, _, rfl, ⟨_, rfl, _, _, rfl, ⟨nl, [n0, n1, n2, n3], n3, rfl, hnl1, rfl, rfl⟩, _, _, rfl, ⟨_, rfl, rfl⟩, _, _, rfl, ⟨_, rfl, rfl⟩, _, _, rfl, ⟨[(Pw.call n2 [] []).d], 9, rfl, ⟨_, rfl, _, _, rfl, ⟨_, rfl, _, _, rfl, rfl, _, _, rfl, ⟨nl, [n0, n1, n2, n3], n2, rfl, hnl1, rfl, rfl⟩, _, _, rfl, ⟨_, rfl, rfl⟩, _, _, rfl, ⟨_, rfl, rfl⟩, rfl⟩, rfl⟩, rfl, by simp, (by show 1 ≤ 1000; decide), by decide, by decide⟩, rfl⟩, rfl⟩, (by show 2 ≤ 10000; decide)⟩, fun u2 G2 xg2 tu2 => ?_⟩
          have hnl2 := xg2.lst hnl1 (by simp)
          refine ⟨.tuple (([(inL n2 n0).x.d] ++ [(caL n3 n2).x.d]) ++ [(caL odd8 n3).x.d]), ⟨_, _, rfl, ⟨u2, rfl, tu2⟩, ⟨_, rfl, _, _, rfl, ⟨_, rfl, _, _, rfl, rfl, _, _, rfl, ⟨_, rfl, rfl⟩, _, _, rfl, ⟨_, rfl, rfl⟩, _, _, rfl, ⟨[(Pw.call n3 [] []).d], 9, rfl, ⟨_, rfl, _, _, rfl, ⟨_, rfl, _, _, rfl, rfl, _, _, rfl, ⟨nl, [n0, n1, n2, n3], n3, rfl, hnl2, rfl, rfl⟩, _, _, rfl, ⟨_, rfl, rfl⟩, _, _, rfl, ⟨_, rfl, rfl⟩, rfl⟩, rfl⟩, rfl, by simp, (by show 1 ≤ 1000; decide), by decide, by decide⟩, rfl⟩, rfl⟩, (by show 3 ≤ 10000; decide)⟩, fun u3 G3 xg3 tu3 => ?_⟩
          refine ⟨progD ((T3 n2 n3 n0).map TD.x) (maL.map Wo.d), ⟨_, rfl, _, _, rfl, ⟨u3, rfl, tu3⟩, _, _, rfl, ⟨[(Pw.call odd8 [] []).d], 9, rfl, ⟨_, rfl, _, _, rfl, ⟨_, rfl, _, _, rfl, rfl, _, _, rfl, rfl, _, _, rfl, ⟨_, rfl, rfl⟩, _, _, rfl, ⟨_, rfl, rfl⟩, rfl⟩, rfl⟩, rfl, by simp, (by show 1 ≤ 1000; decide), by decide, by decide⟩, rfl⟩, fun u4 G4 xg4 tu4 => ?_⟩
          have x2d := x2B.trans ((((x10.trans xg1).trans xg2).trans xg3).trans xg4)
          obtain ⟨p, rfl, hPr⟩ := prg3 (n1 := n1) q0 q1 q2 q3 ne o2 o3 (x2d.t _ (x2.t _ hT)) tu4
          refine ⟨.ref p, rfl, _, _, tok3 (n1 := n1) q0 q1 q2 q3 ne o2 o3, .inr rfl, p, 8928, rfl, hPr, fun _ H12 x12 => ?_, fun sm => absurd sm (by decide)⟩
          refine ⟨rfl, _, rfl, iteNS rfl ?_⟩
          exact ⟨(x2.trans x2d).trans x12, _, _, _, _, _, _, _, _, _, rfl⟩
    · rintro σ H2 ⟨x2, _⟩
      exact q H2
end
end K41

set_option maxHeartbeats 4000000
namespace K41
open PySem PySem.Spec PyProof.Rows L2 Kk RZ
/-- what is told of any two or three defs -/
theorem fnok_told {P : Program} {w : World} {K : PySem.W.Frag} {mg : Str → Option Value} {base : Heap} {k : Nat} {f Tg : Addr} {fd : FuncData} {ps : List Str}
    (G : ∀ (T : List TD) (sz : Str → Nat), TOk T sz → (T.length = 2 ∨ T.length = 3) → FnOk P w K mg base CX0 k f fd ps (spTold K Tg T sz)) (len : ∀ vs H Q E, spToldX K Tg vs H Q E → vs.length = ps.length) : FnOk P w K mg base CX0 k f fd ps (spToldX K Tg) :=
  ⟨len, fun A outer s H args us vs Q E hr he hb hv ⟨T, sz, h1, h2, hs⟩ => (G T sz h1 h2).run A outer s H args us vs Q E hr he hb hv hs⟩
end K41

set_option maxHeartbeats 4000000
namespace Kk
open PySem PySem.Spec PyProof.Rows L2
/-- the end of a law; what the top has told is handed on -/
theorem walkT {l : PySem.W.OpenLaw} {m lev : Nat} {q : Program} {loose : List Str} {XP : (Str → Option Value) → Heap → Prop} {YP : World → Heap → Prop} {dr : DefRec} {K : Params → PySem.W.Frag} {x : Str}
    (most : l.most = some m) (small : m ≤ sizeLine) (nodef : dr.params.defaults = []) (room : Room lev callerA) (written : ∀ (w : World) (h : Heap), YP w h → (K w.params).In h)
    (F : ∀ (w : World) (mg mb : Str → Option Value) (mean : ExcName → Option Value) (fa : Addr) (h : Heap), (K w.params).In h → PyProof.Rows.Top q (PySem.W.looseW q loose) mean mg mb h → mg dr.name = some (.ref fa) →
      LamX.LawAtS l w (K w.params) CX0 lev m x mg fa h) :
    PySem.W.WalkO q loose XP YP l.row.toRowW dr [] (fun f vs => PySem.call f vs) := by
  refine Att.attach_callB most nodef fun w s0 s1 mg mb fa o pm cd doc a vs ns gr Y ho hd hcd hmg hobj hin hlen hbits hgens => ?_
  have inK := written w _ Y
  obtain ⟨fd, tabs, sp, tAt, tOut, tHd, bind, prom, ok⟩ := F w mg mb _ fa _ inK gr.T hmg
  refine LamX.law_callTs inK gr.T.g gr.T.b gr.T.builtins gr.T.nolimit hgens tAt tOut tHd gr.T.bmain hobj hin (Nat.le_trans hlen small) room ok bind ?_ ?_
  · exact fun H hH hS => prom H a ns hlen hbits hH hS
  · exact fun H e s' z => z
/-- the def's own code table, by where it stands -/
theorem tab_mk {K : PySem.W.Frag} {x : Str} {f c T : Addr} {oc : Value} {od : Option Addr} {fn : FuncData} {sl slc : Array (Option Value)} {occ : Value} {odc : Option Addr} {cvs : Array Value} (a : PySem.W.nsIn K mainGlobals x = some (some (.ref f))) (l : K.lookup f = some ⟨oc, od, .func fn, sl⟩) (hc : fn.code = .ref c)
    (lc : K.lookup c = some ⟨occ, odc, .fields cvs, slc⟩) (v11 : cvs[11]? = some (.ref T)) : PySem.W.tabIn K x = some (c, T) := by
  unfold PySem.W.tabIn
  rw [a]
  simp only [l, hc]
  show (match K.lookup c with | some ⟨_, _, .fields vs, _⟩ => (match (vs[11]? : Option Value) with | some (.ref P) => some (c, P) | _ => none) | _ => none) = some (c, T)
  rw [lc]
  simp only [v11]
end Kk
namespace K41
open PySem PySem.Spec PyProof.Rows L2 Kk
/-- where a def stands -/
structure AtN (K : PySem.W.Frag) (x : Str) (st : Stmt) (f : Addr) (fd : FuncData) : Prop where
  a : PySem.W.nsIn K mainGlobals x = some (some (.ref f))
  F : Fun K x x st f fd
theorem at_mk {K : PySem.W.Frag} {x : Str} {st : Stmt} {f : Addr} {oc : Value} {od an : Option Addr} {sl : Array (Option Value)} {kV doc pm cd ct : Value} (a : PySem.W.nsIn K mainGlobals x = some (some (.ref f)))
    (l : K.lookup f = some ⟨oc, od, .func (PySem.W.fnOf x x (defArgs st) (defBody st) (defScope st) .none kV doc pm an cd ct), sl⟩) (c : PySem.W.codeIn K cd x = true) (k : PySem.W.keepIn K (.ref f) = true) :
    AtN K x st f (PySem.W.fnOf x x (defArgs st) (defBody st) (defScope st) .none kV doc pm an cd ct) := ⟨a, fun_mk l c k⟩
structure AtM (K : PySem.W.Frag) (C : Addr) (m x : Str) (st : Stmt) (f : Addr) (fd : FuncData) : Prop where
  a : PySem.W.findIn K (.ref C) m = some (some (.ref f))
  i : PySem.W.isFn K (.ref f) = true
  k : PySem.W.keepIn K (.ref f) = true
  F : Fun K m x st f fd
theorem atM_mk {K : PySem.W.Frag} {C : Addr} {m x : Str} {st : Stmt} {f : Addr} {oc : Value} {od an : Option Addr} {sl : Array (Option Value)} {kV doc pm cd ct : Value} (a : PySem.W.findIn K (.ref C) m = some (some (.ref f))) (i : PySem.W.isFn K (.ref f) = true)
    (l : K.lookup f = some ⟨oc, od, .func (PySem.W.fnOf m x (defArgs st) (defBody st) (defScope st) .none kV doc pm an cd ct), sl⟩) (c : PySem.W.codeIn K cd x = true) (k : PySem.W.keepIn K (.ref f) = true) :
    AtM K C m x st f (PySem.W.fnOf m x (defArgs st) (defBody st) (defScope st) .none kV doc pm an cd ct) := ⟨a, i, k, fun_mk l c k⟩
/-- where a class stands -/
structure AtC (K : PySem.W.Frag) (x : Str) (C : Addr) : Prop where
  a : PySem.W.nsIn K mainGlobals x = some (some (.ref C))
  pg : PySem.W.plainGet K C Str.empty = true
  hd : PySem.W.hasDictIn K C = true
  po : PySem.W.plainOver K C = true
  sa : PySem.W.findIn K (.ref C) "__setattr__" = some (some (.builtin "object.__setattr__"))
  ms : PySem.W.makesIn K C = true
  kc : PySem.W.keepIn K (.ref C) = true
theorem atC_mk {K : PySem.W.Frag} {x : Str} {C : Addr} (a : PySem.W.nsIn K mainGlobals x = some (some (.ref C))) (pg : PySem.W.plainGet K C Str.empty = true) (hd : PySem.W.hasDictIn K C = true) (po : PySem.W.plainOver K C = true) (sa : PySem.W.findIn K (.ref C) "__setattr__" = some (some (.builtin "object.__setattr__"))) (mk : PySem.W.makesIn K C = true) (kc : PySem.W.keepIn K (.ref C) = true) : AtC K x C := ⟨a, pg, hd, po, sa, mk, kc⟩
/-- an order's kinds, where they stand -/
def FmA (K : PySem.W.Frag) (fA : Addr) (k : Str) (ks : List Str) : Prop := ∃ t, PySem.W.nsIn K fA k = some (some (.ref t)) ∧ ∃ d its n sl, K.lookup t = some ⟨.type "tuple", d, .seq its n, sl⟩ ∧ its.size ≤ sizeLine ∧ Vals (ks.map V.str) its.toList
theorem fmA_mk {K : PySem.W.Frag} {fA t : Addr} {k : Str} {ks : List Str} {d : Option Addr} {its : Array Value} {n : Nat} {sl : Array (Option Value)} (a : PySem.W.nsIn K fA k = some (some (.ref t))) (l : K.lookup t = some ⟨.type "tuple", d, .seq its n, sl⟩) (z : its.size ≤ sizeLine) (v : Vals (ks.map V.str) its.toList) : FmA K fA k ks := ⟨t, a, d, its, n, sl, l, z, v⟩

theorem all_mk {l : PySem.W.OpenLaw} {w : World} {K : PySem.W.Frag} {q : Program} {loose : List Str} {mean : ExcName → Option Value} {h : Heap} {mg mb : Str → Option Value} {fa fL fA tA CM CT CW C1 C2 C3 C4 C5 : Addr} {f0 f1 f2 f3 f4 f5 f6 f7 f8 f9 f10 f11 f12 f13 f14 f15 f16 f17 f18 f19 f20 f21 f22 f23 f24 f25 f26 f27 : Addr} {r0 r1 : Addr} {p0 c0 T0 : Addr} {md0 md1 : FuncData}
    {fd0 fd1 fd2 fd3 fd4 fd5 fd6 fd7 fd8 fd9 fd10 fd11 fd12 fd13 fd14 fd15 fd16 fd17 fd18 fd19 fd20 fd21 fd22 fd23 fd24 fd25 fd26 fd27 : FuncData} {ocL kVL docL pmL cdL ctL : Value} {odL anL dT : Option Addr} {slL slT : Array (Option Value)} {its : Array Value} {nT nE : Nat} {es : Array DictEntry} {tk1 tk2 tk3 tk4 : Tok}
    {dn0 : DefRec} {oc0 kV0 doc0 pm0 ct0 occ0 : Value} {od0 an0 odc0 : Option Addr} {sl0 slc0 : Array (Option Value)} {cvs0 : Array Value}
    (X : K.In h) (top : PyProof.Rows.Top q loose mean mg mb h) (hfa : mg "law" = some (.ref fa))
    (ga0 : PySem.W.nsIn K mainGlobals "is_name" = some (some (.ref p0))) (gl0 : K.lookup p0 = some ⟨oc0, od0, .func (PySem.W.fnOf "is_name" "is_name" (defArgs sName) (defBody sName) (defScope sName) .none kV0 doc0 pm0 an0 (.ref c0) ct0), sl0⟩) (gc0 : PySem.W.codeIn K (.ref c0) "is_name" = true) (gk0 : PySem.W.keepIn K (.ref p0) = true)
    (rn0 : (recsOf q).find? (fun e => e.name == ("is_name" : Str)) = some dn0) (lc0 : K.lookup c0 = some ⟨occ0, odc0, .fields cvs0, slc0⟩) (v11_0 : cvs0[11]? = some (.ref T0)) (tbn0 : K.lookup T0 = none)
    (A0 : AtN K "rows_of" s_rows_of f0 fd0)
    (A1 : AtN K "made_word" s_made f1 fd1)
    (A2 : AtN K "all_rows" s_all_rows f2 fd2)
    (A3 : AtN K "boxes_of" s_boxes_of f3 fd3)
    (A4 : AtN K "boxes_in" s_boxes_in f4 fd4)
    (A5 : AtN K "def_of" s_def_of f5 fd5)
    (A6 : AtN K "name_by" s_name_by f6 fd6)
    (A7 : AtN K "texts_of" s_texts_of f7 fd7)
    (A8 : AtN K "names_in" s_names_in f8 fd8)
    (A9 : AtN K "boxes_of_def" s_boxes_of_def f9 fd9)
    (A10 : AtN K "others_of" s_others_of f10 fd10)
    (A11 : AtN K "fresh_names" s_fresh_names f11 fd11)
    (A12 : AtN K "fresh_box" s_fresh_box f12 fd12)
    (A13 : AtN K "fresh_part" s_fresh_part f13 fd13)
    (A14 : AtN K "fresh_word" s_fresh_word f14 fd14)
    (A15 : AtN K "going_back" s_going_back f15 fd15)
    (A16 : AtN K "fresh_row" s_fresh_row f16 fd16)
    (A17 : AtN K "call_in_place" s_call f17 fd17)
    (A18 : AtN K "calls_in_place" s_cip f18 fd18)
    (A19 : AtN K "size_of" s_size_of f19 fd19)
    (A20 : AtN K "sizes_of" s_sizes_of f20 fd20)
    (A21 : AtN K "in_place" s_in_place f21 fd21)
    (A22 : AtN K "_law_deck" sDeck f22 fd22)
    (A23 : AtN K "_law_draw" sDraw f23 fd23)
    (A24 : AtN K "_law_names" sNames f24 fd24)
    (A25 : AtN K "_law_told" s_told f25 fd25)
    (A26 : AtN K "_law_counted" s_counted f26 fd26)
    (A27 : AtN K "_law_program" s_program f27 fd27)
    (KM : AtC K "Fresh" CM) (nM1 : PySem.W.findIn K (.ref CM) "taken" = some none) (nM2 : PySem.W.findIn K (.ref CM) "given" = some none)
    (gNT : PySem.W.nsIn K mainGlobals "TooLong" = some (some (.ref CT))) (xNT : PySem.W.excIn K CT [.type "ValueError", .type "Exception", .type "BaseException", .type "object"] "ValueError.__new__" = true) (kNT : PySem.W.keepIn K (.ref CT) = true) (bNT : PySem.W.subIn K (.ref CT) (.type "BaseException") = some true) (tNT : PySem.W.typeIn K (.ref CT) = some (.type "type"))
    (gNW : PySem.W.nsIn K mainGlobals "WipeError" = some (some (.ref CW))) (gEC1 : PySem.W.nsIn K mainGlobals "NoAnswer" = some (some (.ref C1))) (gEC2 : PySem.W.nsIn K mainGlobals "NoCode" = some (some (.ref C2))) (gEC3 : PySem.W.nsIn K mainGlobals "NoRow" = some (some (.ref C3))) (gEC4 : PySem.W.nsIn K mainGlobals "NoTurn" = some (some (.ref C4))) (gEC5 : PySem.W.nsIn K mainGlobals "NoText" = some (some (.ref C5)))
    (eCW : PySem.W.subIn K (.ref CW) (.type "BaseException") = some true) (hdW : PySem.W.hasDictIn K CW = true) (tCW : PySem.W.typeIn K (.ref CW) = some (.type "type")) (sCW : PySem.W.subIn K (.ref CT) (.ref CW) = some true)
    (gaR : PySem.W.findIn K (.ref CT) "__getattribute__" = some (some (.builtin "BaseException.__getattribute__"))) (ggR : PySem.W.findIn K (.ref CT) "__getattr__" = some none) (hdR : PySem.W.hasDictIn K CT = true) (caR : PySem.W.findIn K (.ref CT) "__class__" = some (some (.builtin "object.__class__"))) (moR : PySem.W.mroIn K CT (.type "object") = some true)
    (snR : PySem.W.specialIn K (.builtin "object.__class__") "__get__" = some (some (.builtin "getset_descriptor.__get__"))) (tkR : PySem.W.takesIn K (.builtin "object.__class__") = some true)
    (kk0 : PySem.W.kitOne K (.ref CT) (.ref CT) = some true) (kkV : PySem.W.kitOne K (.ref CT) (.type "ValueError") = some true) (kkC1 : PySem.W.kitOne K (.ref CT) (.ref C1) = some false) (kkC2 : PySem.W.kitOne K (.ref CT) (.ref C2) = some false) (kkC3 : PySem.W.kitOne K (.ref CT) (.ref C3) = some false) (kkC4 : PySem.W.kitOne K (.ref CT) (.ref C4) = some false) (kkC5 : PySem.W.kitOne K (.ref CT) (.ref C5) = some false)
    (B0 : AtM K CM "__init__" "Fresh.__init__" s_finit r0 md0)
    (B1 : AtM K CM "next_name" "Fresh.next_name" s_next_name r1 md1)
    (aL : PySem.W.nsIn K mainGlobals "law" = some (some (.ref fL))) (lL : K.lookup fL = some ⟨ocL, odL, .func (PySem.W.fnOf "law" "law" (defArgs s_law) (defBody s_law) (defScope s_law) .none kVL docL pmL anL cdL ctL), slL⟩) (cL : PySem.W.codeIn K cdL "law" = true) (kL : PySem.W.keepIn K (.ref fL) = true)
    (gT : PySem.W.nsIn K mainGlobals "TONGUE" = some (some (.ref tA))) (lT : K.lookup tA = some ⟨.type "tuple", dT, .seq its nT, slT⟩) (vT : Vals tongV its.toList) (zT : its.size ≤ sizeLine)
    (gM : PySem.W.nsIn K mainGlobals "MOST_LETTERS" = some (some (.int 8 tk1))) (gL : PySem.W.nsIn K mainGlobals "LETTERS" = some (some (.str abc tk2))) (gS : PySem.W.nsIn K mainGlobals "FRESH_LETTERS" = some (some (.int 4 tk3))) (gN : PySem.W.nsIn K mainGlobals "MOST_WORDS" = some (some (.int 300 tk4)))
    (gF : PySem.W.nsIn K mainGlobals "FORMS" = some (some (.ref fA))) (lF : K.lookup fA = some ⟨.type "dict", none, .dict es nE, #[]⟩) (kl : PySem.W.KeysLit w.params es.toList)
    (m0 : FmA K fA (Str.ofString "take") (["box", "name"].map Str.ofString))
    (m1 : FmA K fA (Str.ofString "ask") (["box"].map Str.ofString))
    (m2 : FmA K fA (Str.ofString "number") (["box", "whole"].map Str.ofString))
    (m3 : FmA K fA (Str.ofString "copy") (["box", "box"].map Str.ofString))
    (m4 : FmA K fA (Str.ofString "mix") (["box", "box", "box"].map Str.ofString))
    (m5 : FmA K fA (Str.ofString "open") (["box", "box"].map Str.ofString))
    (m6 : FmA K fA (Str.ofString "tell") (["box"].map Str.ofString))
    (m7 : FmA K fA (Str.ofString "wipe") (["box"].map Str.ofString))
    (m8 : FmA K fA (Str.ofString "clear") (["name"].map Str.ofString))
    (m9 : FmA K fA (Str.ofString "drop") (["boxes"].map Str.ofString))
    (m10 : FmA K fA (Str.ofString "choose") (["rows"].map Str.ofString))
    (m11 : FmA K fA (Str.ofString "loop") (["row"].map Str.ofString))
    (m12 : FmA K fA (Str.ofString "out") (["whole"].map Str.ofString))
    (m13 : FmA K fA (Str.ofString "risk") (["name"].map Str.ofString))
    (m14 : FmA K fA (Str.ofString "fault") (["name"].map Str.ofString))
    (m15 : FmA K fA (Str.ofString "call") (["name", "boxes", "boxes"].map Str.ofString))
    (m16 : FmA K fA (Str.ofString "back") ([].map Str.ofString))
    (z0 : PySem.W.nsIn K mainGlobals "isinstance" = some none) (z1 : PySem.W.nsIn K mainGlobals "str" = some none) (z2 : PySem.W.nsIn K mainGlobals "len" = some none) (z3 : PySem.W.nsIn K mainGlobals "all" = some none) (z4 : PySem.W.nsIn K mainGlobals "range" = some none) (z5 : PySem.W.nsIn K mainGlobals "zip" = some none) (z6 : PySem.W.nsIn K mainGlobals "set" = some none) (z7 : PySem.W.nsIn K mainGlobals "sorted" = some none) (z8 : PySem.W.nsIn K mainGlobals "tuple" = some none) (z9 : PySem.W.nsIn K mainGlobals "min" = some none) (z10 : PySem.W.nsIn K mainGlobals "max" = some none) (z11 : PySem.W.nsIn K mainGlobals "sum" = some none) (z12 : PySem.W.nsIn K mainGlobals "int" = some none) (z13 : PySem.W.nsIn K mainGlobals "ValueError" = some none) :
    LamX.LawAtS l w K CX0 33 63 "_law_script" mg fa h := by
  have G := top.g
  have e := hfa.symm.trans (PySem.W.mg_of X G aL)
  cases e
  have tb0 : PySem.W.tabIn K "is_name" = some (c0, T0) := tab_mk ga0 gl0 rfl lc0 v11_0
  obtain ⟨chd0, cT0⟩ := PySem.W.tab_of top X rn0 tb0
  have FL := fun_mk (st := s_law) lL cL kL
  refine ⟨PySem.W.fnOf "law" "law" (defArgs s_law) (defBody s_law) (defScope s_law) .none kVL docL pmL anL cdL ctL, [(c0, T0)], spLaw K T0, ?_, ?_, ?_, fun s v => .of_eq rfl, ?_, fun base inB gls tabs => ?_⟩
  · intro p hp
    simp only [List.mem_cons, List.not_mem_nil, or_false] at hp
    rcases hp with rfl
    · exact cT0
  · intro p hp
    simp only [List.mem_cons, List.not_mem_nil, or_false] at hp
    rcases hp with rfl
    · exact tbn0
  · intro p hp
    simp only [List.mem_cons, List.not_mem_nil, or_false] at hp
    rcases hp with rfl
    · exact chd0
  · intro H a ns hl _ hH hS
    exact ⟨a, ns, rfl, hS, hl, ⟨#[], hH (c0, T0) (by simp), True.intro⟩, fun _ => rfl⟩
  · skip
    have tab0 : GxR.TabB base mg c0 T0 := by
      obtain ⟨u1, u2, u3⟩ := tabs (c0, T0) (by simp)
      exact ⟨u1, u2, u3⟩
    have M : Mg K mg tA := ⟨PySem.W.mg_none_of X G z0, PySem.W.mg_none_of X G z1, PySem.W.mg_none_of X G z2, PySem.W.mg_none_of X G z3, PySem.W.mg_of X G gT, fun H => .inr ⟨_, its, nT, lT, rfl, rfl, zT, vT⟩, ⟨_, PySem.W.mg_of X G gM⟩, ⟨_, PySem.W.mg_of X G gL⟩⟩
    have one : ∀ k ks, FmA K fA k ks → ∃ t, PySem.W.nsIn K fA k = some (some (.ref t)) ∧ KDct K w fA k (.ref t) ∧ ∀ H, SqT K H t (ks.map V.str) := fun k ks ⟨t, h1, d, its, n, sl, h2, h3, h4⟩ => ⟨t, h1, ⟨es, nE, _, lF, kl, h1, rfl⟩, fun H => .inr ⟨_, its, n, h2, rfl, rfl, h3, h4⟩⟩
    have MF : Fm K w mg fA := ⟨PySem.W.mg_of X G gF, fun k ks hk => by
      have hm : (k, ks) ∈ [(Str.ofString "take", ["box", "name"].map Str.ofString), (Str.ofString "ask", ["box"].map Str.ofString), (Str.ofString "number", ["box", "whole"].map Str.ofString), (Str.ofString "copy", ["box", "box"].map Str.ofString), (Str.ofString "mix", ["box", "box", "box"].map Str.ofString), (Str.ofString "open", ["box", "box"].map Str.ofString), (Str.ofString "tell", ["box"].map Str.ofString), (Str.ofString "wipe", ["box"].map Str.ofString), (Str.ofString "clear", ["name"].map Str.ofString), (Str.ofString "drop", ["boxes"].map Str.ofString), (Str.ofString "choose", ["rows"].map Str.ofString), (Str.ofString "loop", ["row"].map Str.ofString), (Str.ofString "out", ["whole"].map Str.ofString), (Str.ofString "risk", ["name"].map Str.ofString), (Str.ofString "fault", ["name"].map Str.ofString), (Str.ofString "call", ["name", "boxes", "boxes"].map Str.ofString), (Str.ofString "back", [].map Str.ofString)] := hk
      simp only [List.mem_cons, List.not_mem_nil, or_false, Prod.mk.injEq] at hm
      rcases hm with ⟨rfl, rfl⟩ | ⟨rfl, rfl⟩ | ⟨rfl, rfl⟩ | ⟨rfl, rfl⟩ | ⟨rfl, rfl⟩ | ⟨rfl, rfl⟩ | ⟨rfl, rfl⟩ | ⟨rfl, rfl⟩ | ⟨rfl, rfl⟩ | ⟨rfl, rfl⟩ | ⟨rfl, rfl⟩ | ⟨rfl, rfl⟩ | ⟨rfl, rfl⟩ | ⟨rfl, rfl⟩ | ⟨rfl, rfl⟩ | ⟨rfl, rfl⟩ | ⟨rfl, rfl⟩
      · obtain ⟨t, _, h⟩ := one _ _ m0; exact ⟨t, h⟩
      · obtain ⟨t, _, h⟩ := one _ _ m1; exact ⟨t, h⟩
      · obtain ⟨t, _, h⟩ := one _ _ m2; exact ⟨t, h⟩
      · obtain ⟨t, _, h⟩ := one _ _ m3; exact ⟨t, h⟩
      · obtain ⟨t, _, h⟩ := one _ _ m4; exact ⟨t, h⟩
      · obtain ⟨t, _, h⟩ := one _ _ m5; exact ⟨t, h⟩
      · obtain ⟨t, _, h⟩ := one _ _ m6; exact ⟨t, h⟩
      · obtain ⟨t, _, h⟩ := one _ _ m7; exact ⟨t, h⟩
      · obtain ⟨t, _, h⟩ := one _ _ m8; exact ⟨t, h⟩
      · obtain ⟨t, _, h⟩ := one _ _ m9; exact ⟨t, h⟩
      · obtain ⟨t, _, h⟩ := one _ _ m10; exact ⟨t, h⟩
      · obtain ⟨t, _, h⟩ := one _ _ m11; exact ⟨t, h⟩
      · obtain ⟨t, _, h⟩ := one _ _ m12; exact ⟨t, h⟩
      · obtain ⟨t, _, h⟩ := one _ _ m13; exact ⟨t, h⟩
      · obtain ⟨t, _, h⟩ := one _ _ m14; exact ⟨t, h⟩
      · obtain ⟨t, _, h⟩ := one _ _ m15; exact ⟨t, h⟩
      · obtain ⟨t, _, h⟩ := one _ _ m16; exact ⟨t, h⟩⟩
    have m_isinstance := PySem.W.mg_none_of X G z0
    have m_str := PySem.W.mg_none_of X G z1
    have m_len := PySem.W.mg_none_of X G z2
    have m_all := PySem.W.mg_none_of X G z3
    have m_range := PySem.W.mg_none_of X G z4
    have m_zip := PySem.W.mg_none_of X G z5
    have m_set := PySem.W.mg_none_of X G z6
    have m_sorted := PySem.W.mg_none_of X G z7
    have m_tuple := PySem.W.mg_none_of X G z8
    have m_min := PySem.W.mg_none_of X G z9
    have m_max := PySem.W.mg_none_of X G z10
    have m_sum := PySem.W.mg_none_of X G z11
    have m_int := PySem.W.mg_none_of X G z12
    have m_ValueError := PySem.W.mg_none_of X G z13
    have gg0 := PySem.W.mg_of X G ga0
    have gF0 := fun_mk (st := sName) gl0 gc0 gk0
    have gb0 := gF0.binds (ps := ["thing"]) fun _ _ _ _ _ _ us hl => match us, hl with | [_], _ => rfl
    have g0 := PySem.W.mg_of X G A0.a
    have b0 := A0.F.binds (ps := ["word"]) fun _ _ _ _ _ _ us hl => match us, hl with | [_], _ => rfl
    have g1 := PySem.W.mg_of X G A1.a
    have b1 := A1.F.binds (ps := ["kind", "rows"]) fun _ _ _ _ _ _ us hl => match us, hl with | [_, _], _ => rfl
    have g2 := PySem.W.mg_of X G A2.a
    have b2 := A2.F.binds (ps := ["row"]) fun _ _ _ _ _ _ us hl => match us, hl with | [_], _ => rfl
    have g3 := PySem.W.mg_of X G A3.a
    have b3 := A3.F.binds (ps := ["word"]) fun _ _ _ _ _ _ us hl => match us, hl with | [_], _ => rfl
    have g4 := PySem.W.mg_of X G A4.a
    have b4 := A4.F.binds (ps := ["row"]) fun _ _ _ _ _ _ us hl => match us, hl with | [_], _ => rfl
    have g5 := PySem.W.mg_of X G A5.a
    have b5 := A5.F.binds (ps := ["program", "name"]) fun _ _ _ _ _ _ us hl => match us, hl with | [_, _], _ => rfl
    have g6 := PySem.W.mg_of X G A6.a
    have b6 := A6.F.binds (ps := ["number"]) fun _ _ _ _ _ _ us hl => match us, hl with | [_], _ => rfl
    have g7 := PySem.W.mg_of X G A7.a
    have b7 := A7.F.binds (ps := ["word"]) fun _ _ _ _ _ _ us hl => match us, hl with | [_], _ => rfl
    have g8 := PySem.W.mg_of X G A8.a
    have b8 := A8.F.binds (ps := ["program"]) fun _ _ _ _ _ _ us hl => match us, hl with | [_], _ => rfl
    have g9 := PySem.W.mg_of X G A9.a
    have b9 := A9.F.binds (ps := ["one"]) fun _ _ _ _ _ _ us hl => match us, hl with | [_], _ => rfl
    have g10 := PySem.W.mg_of X G A10.a
    have b10 := A10.F.binds (ps := ["one"]) fun _ _ _ _ _ _ us hl => match us, hl with | [_], _ => rfl
    have g11 := PySem.W.mg_of X G A11.a
    have b11 := A11.F.binds (ps := ["one", "fresh"]) fun _ _ _ _ _ _ us hl => match us, hl with | [_, _], _ => rfl
    have g12 := PySem.W.mg_of X G A12.a
    have b12 := A12.F.binds (ps := ["box", "names"]) fun _ _ _ _ _ _ us hl => match us, hl with | [_, _], _ => rfl
    have g13 := PySem.W.mg_of X G A13.a
    have b13 := A13.F.binds (ps := ["kind", "part", "names"]) fun _ _ _ _ _ _ us hl => match us, hl with | [_, _, _], _ => rfl
    have g14 := PySem.W.mg_of X G A14.a
    have b14 := A14.F.binds (ps := ["word", "names"]) fun _ _ _ _ _ _ us hl => match us, hl with | [_, _], _ => rfl
    have g15 := PySem.W.mg_of X G A15.a
    have b15 := A15.F.binds (ps := ["one", "names", "gets"]) fun _ _ _ _ _ _ us hl => match us, hl with | [_, _, _], _ => rfl
    have g16 := PySem.W.mg_of X G A16.a
    have b16 := A16.F.binds (ps := ["row", "names", "ending", "loops"]) fun _ _ _ _ _ _ us hl => match us, hl with | [_, _, _, _], _ => rfl
    have g17 := PySem.W.mg_of X G A17.a
    have b17 := A17.F.binds (ps := ["program", "word", "fresh"]) fun _ _ _ _ _ _ us hl => match us, hl with | [_, _, _], _ => rfl
    have g18 := PySem.W.mg_of X G A18.a
    have b18 := A18.F.binds (ps := ["program", "row", "fresh"]) fun _ _ _ _ _ _ us hl => match us, hl with | [_, _, _], _ => rfl
    have g19 := PySem.W.mg_of X G A19.a
    have b19 := A19.F.binds (ps := ["row", "sizes", "back"]) fun _ _ _ _ _ _ us hl => match us, hl with | [_, _, _], _ => rfl
    have g20 := PySem.W.mg_of X G A20.a
    have b20 := A20.F.binds (ps := ["program"]) fun _ _ _ _ _ _ us hl => match us, hl with | [_], _ => rfl
    have g21 := PySem.W.mg_of X G A21.a
    have b21 := A21.F.binds (ps := ["program"]) fun _ _ _ _ _ _ us hl => match us, hl with | [_], _ => rfl
    have g22 := PySem.W.mg_of X G A22.a
    have b22 := A22.F.binds (ps := ["_law_script", "_law_k"]) fun _ _ _ _ _ _ us hl => match us, hl with | [_, _], _ => rfl
    have g23 := PySem.W.mg_of X G A23.a
    have b23 := A23.F.binds (ps := ["_law_deck_here", "_law_many"]) fun _ _ _ _ _ _ us hl => match us, hl with | [_, _], _ => rfl
    have g24 := PySem.W.mg_of X G A24.a
    have b24 := A24.F.binds (ps := ["_law_deck_here", "_law_many"]) fun _ _ _ _ _ _ us hl => match us, hl with | [_, _], _ => rfl
    have g25 := PySem.W.mg_of X G A25.a
    have b25 := A25.F.binds (ps := ["_law_program_here"]) fun _ _ _ _ _ _ us hl => match us, hl with | [_], _ => rfl
    have g26 := PySem.W.mg_of X G A26.a
    have b26 := A26.F.binds (ps := ["_law_row"]) fun _ _ _ _ _ _ us hl => match us, hl with | [_], _ => rfl
    have g27 := PySem.W.mg_of X G A27.a
    have b27 := A27.F.binds (ps := ["_law_names_here", "_law_sizes", "_law_wide", "_law_more"]) fun _ _ _ _ _ _ us hl => match us, hl with | [_, _, _, _], _ => rfl
    have TF : TFr K mg CM := ⟨⟨KM.pg, KM.hd, KM.po, KM.sa⟩, nM1, nM2⟩
    have TN : TlT K mg CT := ⟨PySem.W.mg_of X G gNT, xNT, kNT, bNT, tNT⟩
    have exT : ExcC K CT := ⟨gaR, ggR, bNT, hdR, caR, snR, tkR, moR⟩
    have mb0 := B0.F.binds (ps := ["self", "taken"]) fun _ _ _ _ _ _ us hl => match us, hl with | [_, _], _ => rfl
    have mb1 := B1.F.binds (ps := ["self"]) fun _ _ _ _ _ _ us hl => match us, hl with | [_], _ => rfl
    have Mf_ : Mf mg := ⟨m_range, m_len, ⟨_, PySem.W.mg_of X G gL⟩, ⟨_, PySem.W.mg_of X G gS⟩⟩
    have o_name : FnOk l.prog w K mg base CX0 1 p0 _ ["thing"] (spName K T0) := ok_name gl0 gc0 tab0 M gls
    have o_rows : FnOk l.prog w K mg base CX0 1 f0 fd0 ["word"] (spRowsOf K) := ok_rows_of A0.F
    have o_made : FnOk l.prog w K mg base CX0 1 f1 fd1 ["kind", "rows"] (spMade K) := ok_made A1.F m_tuple
    have o_all : FnOk l.prog w K mg base CX0 2 f2 fd2 ["row"] (spAllRows K) := ok_all_rows A2.F ⟨o_rows.mono (by decide), A0.F.kp, b0, g0⟩
    have o_bof : FnOk l.prog w K mg base CX0 1 f3 fd3 ["word"] (spBoxesOf K) := ok_boxes_of A3.F MF m_zip
    have o_bin : FnOk l.prog w K mg base CX0 3 f4 fd4 ["row"] (spBoxesIn K) := ok_boxes_in A4.F ⟨o_all.mono (by decide), A2.F.kp, b2, g2⟩ ⟨o_bof.mono (by decide), A3.F.kp, b3, g3⟩ m_set m_sorted m_tuple
    have o_dof : FnOk l.prog w K mg base CX0 1 f5 fd5 ["program", "name"] (spDefOf K) := ok_def_of A5.F
    have o_nby : FnOk l.prog w K mg base CX0 1 f6 fd6 ["number"] spNameBy := ok_name_by A6.F Mf_
    have o_fi : FnOk l.prog w K mg base CX0 1 r0 md0 ["self", "taken"] (spFInit CM) := ok_finit B0.F TF
    have o_nx : FnOk l.prog w K mg base CX0 2 r1 md1 ["self"] (spNext CM T0) := ok_next B1.F TF ⟨o_nby.mono (by decide), A6.F.kp, b6, g6⟩ ⟨o_name.mono (by decide), gk0, gb0, gg0⟩
    have o_txt : FnOk l.prog w K mg base CX0 2 f7 fd7 ["word"] (spTextsOf K) := ok_texts_of A7.F MF m_zip ⟨o_bof.mono (by decide), A3.F.kp, b3, g3⟩
    have o_nin : FnOk l.prog w K mg base CX0 3 f8 fd8 ["program"] (spNamesIn K) := ok_names_in A8.F ⟨o_all.mono (by decide), A2.F.kp, b2, g2⟩ ⟨o_txt.mono (by decide), A7.F.kp, b7, g7⟩
    have o_bdf : FnOk l.prog w K mg base CX0 4 f9 fd9 ["one"] (spBxDef K) := ok_bx_def A9.F ⟨o_bin.mono (by decide), A4.F.kp, b4, g4⟩ m_set m_sorted
    have o_oth : FnOk l.prog w K mg base CX0 5 f10 fd10 ["one"] (spOthers K) := ok_others A10.F ⟨o_bdf.mono (by decide), A9.F.kp, b9, g9⟩
    have o_fbx : FnOk l.prog w K mg base CX0 1 f12 fd12 ["box", "names"] spFBox := ok_fresh_box A12.F
    have o_fns : FnOk l.prog w K mg base CX0 6 f11 fd11 ["one", "fresh"] (spFNames K CM T0) := ok_fresh_names A11.F ⟨o_all.mono (by decide), A2.F.kp, b2, g2⟩ ⟨o_bdf.mono (by decide), A9.F.kp, b9, g9⟩ TF ⟨B1.a, B1.i, B1.k⟩ (o_nx.mono (by decide)) mb1 m_set m_sorted
    have o_fpt : FnOk l.prog w K mg base CX0 2 f13 fd13 ["kind", "part", "names"] (spFPart K) := ok_fresh_part A13.F ⟨o_fbx.mono (by decide), A12.F.kp, b12, g12⟩ m_tuple
    have o_fwd : FnOk l.prog w K mg base CX0 3 f14 fd14 ["word", "names"] (spFWord K) := ok_fresh_word A14.F MF ⟨o_fpt.mono (by decide), A13.F.kp, b13, g13⟩ m_zip
    have o_gbk : FnOk l.prog w K mg base CX0 6 f15 fd15 ["one", "names", "gets"] (spBack K) := ok_going_back A15.F ⟨o_fbx.mono (by decide), A12.F.kp, b12, g12⟩ ⟨o_oth.mono (by decide), A10.F.kp, b10, g10⟩ m_zip m_len m_tuple
    have o_fr0 : FnOk l.prog w K mg base CX0 4 f16 fd16 ["row", "names", "ending", "loops"] (spFRow K 0) := ok_fresh_row A16.F ⟨o_rows.mono (by decide), A0.F.kp, b0, g0⟩ ⟨o_made.mono (by decide), A1.F.kp, b1, g1⟩ ⟨o_fwd.mono (by decide), A14.F.kp, b14, g14⟩ ⟨ok_never, A16.F.kp, b16, g16⟩ (fun h => by cases h) m_len m_tuple
    have o_fr1 : FnOk l.prog w K mg base CX0 5 f16 fd16 ["row", "names", "ending", "loops"] (spFRow K 1) := ok_fresh_row A16.F ⟨o_rows.mono (by decide), A0.F.kp, b0, g0⟩ ⟨o_made.mono (by decide), A1.F.kp, b1, g1⟩ ⟨o_fwd.mono (by decide), A14.F.kp, b14, g14⟩ ⟨o_fr0.mono (by decide), A16.F.kp, b16, g16⟩ (fun _ => rfl) m_len m_tuple
    have o_c00 : FnOk l.prog w K mg base CX0 2 f18 fd18 ["program", "row", "fresh"] (spCip0 K) := ok_cip0 A18.F ⟨o_rows.mono (by decide), A0.F.kp, b0, g0⟩ ⟨o_made.mono (by decide), A1.F.kp, b1, g1⟩ ⟨ok_never, A17.F.kp, b17, g17⟩ ⟨ok_never, A18.F.kp, b18, g18⟩ m_len m_tuple
    have o_siz : FnOk l.prog w K mg base CX0 3 f19 fd19 ["row", "sizes", "back"] (spSizeOf K) := ok_size_of A19.F ⟨o_all.mono (by decide), A2.F.kp, b2, g2⟩
    have cmk : MkF l.prog w K mg base 12 CM r0 md0 := ⟨⟨KM.ms, B0.a, B0.i, KM.kc⟩, o_fi.mono (by decide), PySem.W.mg_of X G KM.a, mb0⟩
    have o_ct0 : FnOk l.prog w K mg base CX0 1 f26 fd26 ["_law_row"] (spCount K 0) := ok_counted0 A26.F
    have o_ct1 : FnOk l.prog w K mg base CX0 2 f26 fd26 ["_law_row"] (spCount K 1) := ok_counted A26.F ⟨o_ct0.mono (by decide), A26.F.kp, b26, g26⟩ m_len m_sum
    have o_ct2 : FnOk l.prog w K mg base CX0 3 f26 fd26 ["_law_row"] (spCount K 2) := ok_counted A26.F ⟨o_ct1.mono (by decide), A26.F.kp, b26, g26⟩ m_len m_sum
    have o_ct3 : FnOk l.prog w K mg base CX0 4 f26 fd26 ["_law_row"] (spCount K 3) := ok_counted A26.F ⟨o_ct2.mono (by decide), A26.F.kp, b26, g26⟩ m_len m_sum
    have o_ct4 : FnOk l.prog w K mg base CX0 5 f26 fd26 ["_law_row"] (spCount K 4) := ok_counted A26.F ⟨o_ct3.mono (by decide), A26.F.kp, b26, g26⟩ m_len m_sum
    have o_ct5 : FnOk l.prog w K mg base CX0 6 f26 fd26 ["_law_row"] (spCount K 5) := ok_counted A26.F ⟨o_ct4.mono (by decide), A26.F.kp, b26, g26⟩ m_len m_sum
    have TC : NaC K mg CT CW C1 C2 C3 C4 C5 := ⟨PySem.W.mg_of X G gNT, PySem.W.mg_of X G gNW, PySem.W.mg_of X G gEC1, PySem.W.mg_of X G gEC2, PySem.W.mg_of X G gEC3, PySem.W.mg_of X G gEC4, PySem.W.mg_of X G gEC5, m_ValueError, (PySem.W.exm_ref eCW hdW tCW sCW), exT, kk0, kkV, kkC1, kkC2, kkC3, kkC4, kkC5⟩
    have o_told : FnOk l.prog w K mg base CX0 15 f25 fd25 ["_law_program_here"] (spToldX K T0) := fnok_told (fun T sz hT hl => by
      have c0 : FnOk l.prog w K mg base CX0 3 f18 fd18 ["program", "row", "fresh"] (spCip K CM T0 T sz 0) := ok_cip A18.F ⟨o_rows.mono (by decide), A0.F.kp, b0, g0⟩ ⟨o_made.mono (by decide), A1.F.kp, b1, g1⟩ ⟨ok_never, A17.F.kp, b17, g17⟩ (fun _ h => by omega) ⟨o_c00.mono (by decide), A18.F.kp, b18, g18⟩ m_len m_tuple
      have k1 : FnOk l.prog w K mg base CX0 7 f17 fd17 ["program", "word", "fresh"] (spCall K CM T0 T sz 1) := ok_call (main := []) (n := 0) A17.F ⟨o_dof.mono (by decide), A5.F.kp, b5, g5⟩ ⟨o_fns.mono (by decide), A11.F.kp, b11, g11⟩ ⟨o_fbx.mono (by decide), A12.F.kp, b12, g12⟩ ⟨o_fr1.mono (by decide), A16.F.kp, b16, g16⟩ ⟨o_gbk.mono (by decide), A15.F.kp, b15, g15⟩ ⟨c0.mono (by decide), A18.F.kp, b18, g18⟩ hT m_zip
      have c1 : FnOk l.prog w K mg base CX0 8 f18 fd18 ["program", "row", "fresh"] (spCip K CM T0 T sz 1) := ok_cip A18.F ⟨o_rows.mono (by decide), A0.F.kp, b0, g0⟩ ⟨o_made.mono (by decide), A1.F.kp, b1, g1⟩ ⟨k1.mono (by decide), A17.F.kp, b17, g17⟩ (fun _ _ => rfl) ⟨o_c00.mono (by decide), A18.F.kp, b18, g18⟩ m_len m_tuple
      have k2 : FnOk l.prog w K mg base CX0 9 f17 fd17 ["program", "word", "fresh"] (spCall K CM T0 T sz 2) := ok_call (main := []) (n := 1) A17.F ⟨o_dof.mono (by decide), A5.F.kp, b5, g5⟩ ⟨o_fns.mono (by decide), A11.F.kp, b11, g11⟩ ⟨o_fbx.mono (by decide), A12.F.kp, b12, g12⟩ ⟨o_fr1.mono (by decide), A16.F.kp, b16, g16⟩ ⟨o_gbk.mono (by decide), A15.F.kp, b15, g15⟩ ⟨c1.mono (by decide), A18.F.kp, b18, g18⟩ hT m_zip
      have c2 : FnOk l.prog w K mg base CX0 10 f18 fd18 ["program", "row", "fresh"] (spCip K CM T0 T sz 2) := ok_cip A18.F ⟨o_rows.mono (by decide), A0.F.kp, b0, g0⟩ ⟨o_made.mono (by decide), A1.F.kp, b1, g1⟩ ⟨k2.mono (by decide), A17.F.kp, b17, g17⟩ (fun _ _ => rfl) ⟨o_c00.mono (by decide), A18.F.kp, b18, g18⟩ m_len m_tuple
      have k3 : FnOk l.prog w K mg base CX0 11 f17 fd17 ["program", "word", "fresh"] (spCall K CM T0 T sz 3) := ok_call (main := []) (n := 2) A17.F ⟨o_dof.mono (by decide), A5.F.kp, b5, g5⟩ ⟨o_fns.mono (by decide), A11.F.kp, b11, g11⟩ ⟨o_fbx.mono (by decide), A12.F.kp, b12, g12⟩ ⟨o_fr1.mono (by decide), A16.F.kp, b16, g16⟩ ⟨o_gbk.mono (by decide), A15.F.kp, b15, g15⟩ ⟨c2.mono (by decide), A18.F.kp, b18, g18⟩ hT m_zip
      have c3 : FnOk l.prog w K mg base CX0 12 f18 fd18 ["program", "row", "fresh"] (spCip K CM T0 T sz 3) := ok_cip A18.F ⟨o_rows.mono (by decide), A0.F.kp, b0, g0⟩ ⟨o_made.mono (by decide), A1.F.kp, b1, g1⟩ ⟨k3.mono (by decide), A17.F.kp, b17, g17⟩ (fun _ _ => rfl) ⟨o_c00.mono (by decide), A18.F.kp, b18, g18⟩ m_len m_tuple
      have cT : FnOk l.prog w K mg base CX0 12 f18 fd18 ["program", "row", "fresh"] (spCip K CM T0 T sz T.length) := by rcases hl with e | e <;> rw [e] <;> first | exact c2.mono (by decide) | exact c3.mono (by decide)
      have o_szs : FnOk l.prog w K mg base CX0 6 f20 fd20 ["program"] (spSizesOf K T sz) := ok_sizes_of A20.F ⟨o_oth.mono (by decide), A10.F.kp, b10, g10⟩ ⟨o_siz.mono (by decide), A19.F.kp, b19, g19⟩ hT m_len m_min
      have o_ip : FnOk l.prog w K mg base (L2.CX l.prog w) 14 f21 fd21 ["program"] (spInPlace K CT T0 T sz) := ok_in_place (k := 12) A21.F ⟨o_siz.mono (by decide), A19.F.kp, b19, g19⟩ ⟨o_szs.mono (by decide), A20.F.kp, b20, g20⟩ ⟨cT.mono (by decide), A18.F.kp, b18, g18⟩ ⟨o_nin.mono (by decide), A8.F.kp, b8, g8⟩ cmk TN ⟨_, PySem.W.mg_of X G gN⟩
      have o_ct : FnOk l.prog w K mg base CX0 6 f26 fd26 ["_law_row"] (spCount K (T.length + 2)) := by rcases hl with e | e <;> rw [e] <;> first | exact o_ct4.mono (by decide) | exact o_ct5.mono (by decide)
      exact ok_told (k := 14) A25.F TC ⟨o_ip.mono (by decide), A21.F.kp, b21, g21⟩ ⟨o_ct.mono (by decide), A26.F.kp, b26, g26⟩ m_isinstance) (fun vs H Q E ⟨T, sz, _, _, p, n, h, _⟩ => by rw [h]; rfl)
    have o_deck : FnOk l.prog w K mg base CX0 1 f22 fd22 ["_law_script", "_law_k"] (spDeck K) := ok_deck A22.F m_len m_int
    have o_draw : FnOk l.prog w K mg base CX0 1 f23 fd23 ["_law_deck_here", "_law_many"] spDraw := ok_draw A23.F
    have o_names : FnOk l.prog w K mg base CX0 2 f24 fd24 ["_law_deck_here", "_law_many"] spNames := ok_names A24.F ⟨o_draw.mono (by decide), A23.F.kp, b23, g23⟩ m_len m_range
    have o_prog : FnOk l.prog w K mg base CX0 1 f27 fd27 ["_law_names_here", "_law_sizes", "_law_wide", "_law_more"] (spProgram K) := ok_program A27.F
    exact ok_law (k := 32) FL ⟨o_deck.mono (by decide), A22.F.kp, b22, g22⟩ ⟨o_draw.mono (by decide), A23.F.kp, b23, g23⟩ ⟨o_names.mono (by decide), A24.F.kp, b24, g24⟩ ⟨o_prog.mono (by decide), A27.F.kp, b27, g27⟩ ⟨o_told.mono (by decide), A25.F.kp, b25, g25⟩ m_range m_max m_min m_len
end K41

open PySem PySem.W PyProof.Rows
set_option maxRecDepth 100000 in
set_option maxHeartbeats 0 in
theorem PySem.Challenge.cw_wipeways_k41_too_long_in_place_holds : PySem.Challenge.rw_wipeways_k41_too_long_in_place.Holds := by
  w_on; o_law; k_head; (case hw => w_witness2)
  k_fill
  refine Kk.walkT (l := PySem.Challenge.rw_wipeways_k41_too_long_in_place) (m := 63) (lev := 33) (x := "_law_script") rfl (by decide) rfl ⟨rfl, by decide, by decide⟩ (fun w h Y => PySem.W.kIn_of Y) ?F
  case F =>
    intro w mg mb mean fa h KX top hmg
    refine' K41.all_mk KX top hmg ?ga0 ?gl0 ?gc0 ?gk0 ?rn0 ?lc0 ?v11_0 ?tbn0 (K41.at_mk ?b0 ?l_0 ?c_0 ?k_0) (K41.at_mk ?b1 ?l_1 ?c_1 ?k_1) (K41.at_mk ?b2 ?l_2 ?c_2 ?k_2) (K41.at_mk ?b3 ?l_3 ?c_3 ?k_3) (K41.at_mk ?b4 ?l_4 ?c_4 ?k_4) (K41.at_mk ?b5 ?l_5 ?c_5 ?k_5) (K41.at_mk ?b6 ?l_6 ?c_6 ?k_6) (K41.at_mk ?b7 ?l_7 ?c_7 ?k_7) (K41.at_mk ?b8 ?l_8 ?c_8 ?k_8) (K41.at_mk ?b9 ?l_9 ?c_9 ?k_9) (K41.at_mk ?b10 ?l_10 ?c_10 ?k_10) (K41.at_mk ?b11 ?l_11 ?c_11 ?k_11) (K41.at_mk ?b12 ?l_12 ?c_12 ?k_12) (K41.at_mk ?b13 ?l_13 ?c_13 ?k_13) (K41.at_mk ?b14 ?l_14 ?c_14 ?k_14) (K41.at_mk ?b15 ?l_15 ?c_15 ?k_15) (K41.at_mk ?b16 ?l_16 ?c_16 ?k_16) (K41.at_mk ?b17 ?l_17 ?c_17 ?k_17) (K41.at_mk ?b18 ?l_18 ?c_18 ?k_18) (K41.at_mk ?b19 ?l_19 ?c_19 ?k_19) (K41.at_mk ?b20 ?l_20 ?c_20 ?k_20) (K41.at_mk ?b21 ?l_21 ?c_21 ?k_21) (K41.at_mk ?b22 ?l_22 ?c_22 ?k_22) (K41.at_mk ?b23 ?l_23 ?c_23 ?k_23) (K41.at_mk ?b24 ?l_24 ?c_24 ?k_24) (K41.at_mk ?b25 ?l_25 ?c_25 ?k_25) (K41.at_mk ?b26 ?l_26 ?c_26 ?k_26) (K41.at_mk ?b27 ?l_27 ?c_27 ?k_27) (K41.atC_mk ?Ka ?Kpg ?Khd ?Kpo ?Ksa ?Kmk ?Kkc) ?nM1 ?nM2 ?gNT ?xNT ?kNT ?bNT ?tNT ?gNW ?gEC1 ?gEC2 ?gEC3 ?gEC4 ?gEC5 ?eCW ?hdW ?tCW ?sCW ?gaR ?ggR ?hdR ?caR ?moR ?snR ?tkR ?kk0 ?kkV ?kkC1 ?kkC2 ?kkC3 ?kkC4 ?kkC5 (K41.atM_mk ?Ba0 ?Bi0 ?Bl0 ?Bc0 ?Bk0) (K41.atM_mk ?Ba1 ?Bi1 ?Bl1 ?Bc1 ?Bk1) ?aL ?lL ?cL ?kL ?gT ?lT ?vT ?zT ?gM ?gL ?gS ?gN ?gF ?lF ?kl (K41.fmA_mk ?n0 ?t0 ?s0 ?u0) (K41.fmA_mk ?n1 ?t1 ?s1 ?u1) (K41.fmA_mk ?n2 ?t2 ?s2 ?u2) (K41.fmA_mk ?n3 ?t3 ?s3 ?u3) (K41.fmA_mk ?n4 ?t4 ?s4 ?u4) (K41.fmA_mk ?n5 ?t5 ?s5 ?u5) (K41.fmA_mk ?n6 ?t6 ?s6 ?u6) (K41.fmA_mk ?n7 ?t7 ?s7 ?u7) (K41.fmA_mk ?n8 ?t8 ?s8 ?u8) (K41.fmA_mk ?n9 ?t9 ?s9 ?u9) (K41.fmA_mk ?n10 ?t10 ?s10 ?u10) (K41.fmA_mk ?n11 ?t11 ?s11 ?u11) (K41.fmA_mk ?n12 ?t12 ?s12 ?u12) (K41.fmA_mk ?n13 ?t13 ?s13 ?u13) (K41.fmA_mk ?n14 ?t14 ?s14 ?u14) (K41.fmA_mk ?n15 ?t15 ?s15 ?u15) (K41.fmA_mk ?n16 ?t16 ?s16 ?u16) ?z0 ?z1 ?z2 ?z3 ?z4 ?z5 ?z6 ?z7 ?z8 ?z9 ?z10 ?z11 ?z12 ?z13
    (case ga0 => k_is); (case gl0 => k_is); (case gc0 => k_is); (case gk0 => k_is)
    (case b0 => k_is); (case l_0 => k_is); (case c_0 => k_is); (case k_0 => k_is)
    (case b1 => k_is); (case l_1 => k_is); (case c_1 => k_is); (case k_1 => k_is)
    (case b2 => k_is); (case l_2 => k_is); (case c_2 => k_is); (case k_2 => k_is)
    (case b3 => k_is); (case l_3 => k_is); (case c_3 => k_is); (case k_3 => k_is)
    (case b4 => k_is); (case l_4 => k_is); (case c_4 => k_is); (case k_4 => k_is)
    (case b5 => k_is); (case l_5 => k_is); (case c_5 => k_is); (case k_5 => k_is)
    (case b6 => k_is); (case l_6 => k_is); (case c_6 => k_is); (case k_6 => k_is)
    (case b7 => k_is); (case l_7 => k_is); (case c_7 => k_is); (case k_7 => k_is)
    (case b8 => k_is); (case l_8 => k_is); (case c_8 => k_is); (case k_8 => k_is)
    (case b9 => k_is); (case l_9 => k_is); (case c_9 => k_is); (case k_9 => k_is)
    (case b10 => k_is); (case l_10 => k_is); (case c_10 => k_is); (case k_10 => k_is)
    (case b11 => k_is); (case l_11 => k_is); (case c_11 => k_is); (case k_11 => k_is)
    (case b12 => k_is); (case l_12 => k_is); (case c_12 => k_is); (case k_12 => k_is)
    (case b13 => k_is); (case l_13 => k_is); (case c_13 => k_is); (case k_13 => k_is)
    (case b14 => k_is); (case l_14 => k_is); (case c_14 => k_is); (case k_14 => k_is)
    (case b15 => k_is); (case l_15 => k_is); (case c_15 => k_is); (case k_15 => k_is)
    (case b16 => k_is); (case l_16 => k_is); (case c_16 => k_is); (case k_16 => k_is)
    (case b17 => k_is); (case l_17 => k_is); (case c_17 => k_is); (case k_17 => k_is)
    (case b18 => k_is); (case l_18 => k_is); (case c_18 => k_is); (case k_18 => k_is)
    (case b19 => k_is); (case l_19 => k_is); (case c_19 => k_is); (case k_19 => k_is)
    (case b20 => k_is); (case l_20 => k_is); (case c_20 => k_is); (case k_20 => k_is)
    (case b21 => k_is); (case l_21 => k_is); (case c_21 => k_is); (case k_21 => k_is)
    (case b22 => k_is); (case l_22 => k_is); (case c_22 => k_is); (case k_22 => k_is)
    (case b23 => k_is); (case l_23 => k_is); (case c_23 => k_is); (case k_23 => k_is)
    (case b24 => k_is); (case l_24 => k_is); (case c_24 => k_is); (case k_24 => k_is)
    (case b25 => k_is); (case l_25 => k_is); (case c_25 => k_is); (case k_25 => k_is)
    (case b26 => k_is); (case l_26 => k_is); (case c_26 => k_is); (case k_26 => k_is)
    (case b27 => k_is); (case l_27 => k_is); (case c_27 => k_is); (case k_27 => k_is)
    (case Ka => k_is); (case Kpg => k_is); (case Khd => k_is); (case Kpo => k_is); (case Ksa => k_is); (case Kmk => k_is); (case Kkc => k_is); (case nM1 => k_is); (case nM2 => k_is); (case gNT => k_is); (case kNT => k_is); (case bNT => k_is); (case tNT => k_is); (case gNW => k_is); (case gEC1 => k_is); (case gEC2 => k_is); (case gEC3 => k_is); (case gEC4 => k_is); (case gEC5 => k_is)
    (case eCW => first | k_is | rfl | kernel_rfl | decide +kernel)
    (case hdW => first | k_is | rfl | kernel_rfl | decide +kernel)
    (case tCW => first | k_is | rfl | kernel_rfl | decide +kernel)
    (case sCW => first | k_is | rfl | kernel_rfl | decide +kernel)
    (case gaR => first | k_is | rfl | kernel_rfl | decide +kernel)
    (case ggR => first | k_is | rfl | kernel_rfl | decide +kernel)
    (case hdR => first | k_is | rfl | kernel_rfl | decide +kernel)
    (case caR => first | k_is | rfl | kernel_rfl | decide +kernel)
    (case moR => first | k_is | rfl | kernel_rfl | decide +kernel)
    (case snR => first | k_is | rfl | kernel_rfl | decide +kernel)
    (case tkR => first | k_is | rfl | kernel_rfl | decide +kernel)
    (case kk0 => first | k_is | rfl | kernel_rfl | decide +kernel)
    (case kkV => first | k_is | rfl | kernel_rfl | decide +kernel)
    (case kkC1 => first | k_is | rfl | kernel_rfl | decide +kernel)
    (case kkC2 => first | k_is | rfl | kernel_rfl | decide +kernel)
    (case kkC3 => first | k_is | rfl | kernel_rfl | decide +kernel)
    (case kkC4 => first | k_is | rfl | kernel_rfl | decide +kernel)
    (case kkC5 => first | k_is | rfl | kernel_rfl | decide +kernel)
    (case xNT => first | k_exc | k_is | rfl | kernel_rfl | decide +kernel)
    (case Ba0 => k_is); (case Bi0 => k_is); (case Bl0 => k_is); (case Bc0 => k_is); (case Bk0 => k_is)
    (case Ba1 => k_is); (case Bi1 => k_is); (case Bl1 => k_is); (case Bc1 => k_is); (case Bk1 => k_is)
    (case aL => k_is); (case lL => k_is); (case cL => k_is); (case kL => k_is)
    (case gT => k_is); (case lT => k_is); (case gM => k_is); (case gL => k_is); (case gS => k_is); (case gN => k_is)
    (case gF => k_is); (case lF => k_is)
    (case n0 => k_is); (case t0 => k_is)
    (case n1 => k_is); (case t1 => k_is)
    (case n2 => k_is); (case t2 => k_is)
    (case n3 => k_is); (case t3 => k_is)
    (case n4 => k_is); (case t4 => k_is)
    (case n5 => k_is); (case t5 => k_is)
    (case n6 => k_is); (case t6 => k_is)
    (case n7 => k_is); (case t7 => k_is)
    (case n8 => k_is); (case t8 => k_is)
    (case n9 => k_is); (case t9 => k_is)
    (case n10 => k_is); (case t10 => k_is)
    (case n11 => k_is); (case t11 => k_is)
    (case n12 => k_is); (case t12 => k_is)
    (case n13 => k_is); (case t13 => k_is)
    (case n14 => k_is); (case t14 => k_is)
    (case n15 => k_is); (case t15 => k_is)
    (case n16 => k_is); (case t16 => k_is)
    (case z0 => k_is); (case z1 => k_is); (case z2 => k_is); (case z3 => k_is); (case z4 => k_is); (case z5 => k_is); (case z6 => k_is); (case z7 => k_is); (case z8 => k_is); (case z9 => k_is); (case z10 => k_is); (case z11 => k_is); (case z12 => k_is); (case z13 => k_is)
    (case lc0 => k_is); (case v11_0 => rfl); (case tbn0 => first | rfl | k_is | kernel_rfl); (case rn0 => rfl)
    (case zT => decide)
    (case vT => exact .cons ⟨_, rfl⟩ (.cons ⟨_, rfl⟩ (.cons ⟨_, rfl⟩ (.cons ⟨_, rfl⟩ (.cons ⟨_, rfl⟩ (.cons ⟨_, rfl⟩ (.cons ⟨_, rfl⟩ (.cons ⟨_, rfl⟩ (.cons ⟨_, rfl⟩ (.cons ⟨_, rfl⟩ (.cons ⟨_, rfl⟩ (.cons ⟨_, rfl⟩ (.cons ⟨_, rfl⟩ (.cons ⟨_, rfl⟩ (.cons ⟨_, rfl⟩ (.cons ⟨_, rfl⟩ (.cons ⟨_, rfl⟩ (.cons ⟨_, rfl⟩ (.cons ⟨_, rfl⟩ .nil)))))))))))))))))))
    (case kl => exact ⟨⟨_, _, rfl, rfl⟩, ⟨⟨_, _, rfl, rfl⟩, ⟨⟨_, _, rfl, rfl⟩, ⟨⟨_, _, rfl, rfl⟩, ⟨⟨_, _, rfl, rfl⟩, ⟨⟨_, _, rfl, rfl⟩, ⟨⟨_, _, rfl, rfl⟩, ⟨⟨_, _, rfl, rfl⟩, ⟨⟨_, _, rfl, rfl⟩, ⟨⟨_, _, rfl, rfl⟩, ⟨⟨_, _, rfl, rfl⟩, ⟨⟨_, _, rfl, rfl⟩, ⟨⟨_, _, rfl, rfl⟩, ⟨⟨_, _, rfl, rfl⟩, ⟨⟨_, _, rfl, rfl⟩, ⟨⟨_, _, rfl, rfl⟩, ⟨⟨_, _, rfl, rfl⟩, trivial⟩⟩⟩⟩⟩⟩⟩⟩⟩⟩⟩⟩⟩⟩⟩⟩⟩)
    (case s0 => decide); (case u0 => exact .cons ⟨_, rfl⟩ (.cons ⟨_, rfl⟩ (.nil)))
    (case s1 => decide); (case u1 => exact .cons ⟨_, rfl⟩ (.nil))
    (case s2 => decide); (case u2 => exact .cons ⟨_, rfl⟩ (.cons ⟨_, rfl⟩ (.nil)))
    (case s3 => decide); (case u3 => exact .cons ⟨_, rfl⟩ (.cons ⟨_, rfl⟩ (.nil)))
    (case s4 => decide); (case u4 => exact .cons ⟨_, rfl⟩ (.cons ⟨_, rfl⟩ (.cons ⟨_, rfl⟩ (.nil))))
    (case s5 => decide); (case u5 => exact .cons ⟨_, rfl⟩ (.cons ⟨_, rfl⟩ (.nil)))
    (case s6 => decide); (case u6 => exact .cons ⟨_, rfl⟩ (.nil))
    (case s7 => decide); (case u7 => exact .cons ⟨_, rfl⟩ (.nil))
    (case s8 => decide); (case u8 => exact .cons ⟨_, rfl⟩ (.nil))
    (case s9 => decide); (case u9 => exact .cons ⟨_, rfl⟩ (.nil))
    (case s10 => decide); (case u10 => exact .cons ⟨_, rfl⟩ (.nil))
    (case s11 => decide); (case u11 => exact .cons ⟨_, rfl⟩ (.nil))
    (case s12 => decide); (case u12 => exact .cons ⟨_, rfl⟩ (.nil))
    (case s13 => decide); (case u13 => exact .cons ⟨_, rfl⟩ (.nil))
    (case s14 => decide); (case u14 => exact .cons ⟨_, rfl⟩ (.nil))
    (case s15 => decide); (case u15 => exact .cons ⟨_, rfl⟩ (.cons ⟨_, rfl⟩ (.cons ⟨_, rfl⟩ (.nil))))
    (case s16 => decide); (case u16 => exact .nil)

