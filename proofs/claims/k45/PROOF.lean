import PyProof.Rows.All
import Wide.All
import OpenK.AllK
import Wide.FinOn
import HandS.ForMost
import HandS.IsInst
import HandS.AnyAll
import HandS.EndTab
import HandS.Walk
import HandS.TryOnly
import HandS.TupLe
import HandS.TupAny
import KE.KSortTupG
import HandS.Conv
import HandS.Sort
import HandS.More
import HandS.Set
import HandS.Strs
import HandS.SetFor
import PyProof.WalksMore
import PyProof.TupleIter
import HandS.Zip
import HandS.ExcInit
import KE.KExcSuper
import HandS.ExcOwn
import HandS.WordsExc
import HandS.Wide
import HandS.ExcIs
import HandS.ExcField
import PySem.Challenge.RW_wipeways_k45_answers_that_lack
set_option Elab.async false
set_option linter.all false
set_option maxRecDepth 100000
set_option maxHeartbeats 2000000
namespace Kk
open PySem PySem.Spec PyProof.Rows L2

/-- the element of a generator over signs, where the module's names are to be read -/
def EltB (X : Cx) (sc : Scope) (x : Str) (e : Expr) (pb : Nat → Bool) : Prop :=
  ∀ (ge : Env) (B : Around) (F : Value → Shared → Prop) (c : Nat) (t : Tok) (z : Shared) (m : Str → Option Value),
    ge.scope = sc → ge.globals = mainGlobals → (∀ b o, X.base.get? b = some o → z.heap.get? b = some o) →
    z.heap.Ns ge.locals m → m x = some (.str ⟨#[c]⟩ t) →
    wpAny (model X.prog X.w) B (eval e ge) (fun y z' => y = .bool (pb c) ∧ Keeps z z') F z

section
variable {X : Cx} {pins : List (Addr × Obj)} {σ : L2.St} {H : Hp} {s : Shared}

theorem genB {c P : Addr} {e it : Expr} {x : Str} {px gp : Pos} {sc : Scope} {pb : Nat → Bool} {te : TE} {k : Nat} {G : Value → Shared → Prop} {R : Str → Hp → Prop}
    (room : Room k X.A) (tab : GxR.TabB X.base X.mg c P) (code : X.env.code = .ref c) (gs : GxR.GenS X.env sc x) (pit : PE X it te) (pel : EltB X sc x e pb)
    (fold : ∀ v, genFold it X.env v = pure v) (I : Inv X pins σ H s) (want : te σ H fun v H1 => ∃ a : Str, v = .str a ∧ GxR.TabG H1 P ∧ R a H1)
    (fin : ∀ a H1 g s5, R a H1 → GxR.Ready X pins σ H1 P a pb g s5 → G (.ref g) s5) :
    wpAny (model X.prog X.w) X.A (eval (.GeneratorExp e [⟨.Name x px, it, [], 0⟩] sc gp) X.env) G X.xe s := by
  have deep : X.A.depth < recursionLimit := by have q := room.dp; omega
  refine wpAny_GeneratorExp_walksQ room.hd gs.co (closure_ok gs.free) gs.cell gs.dot gs.loc gs.kind deep ?_ fold
  refine thn (pit.run pins s σ H _ I want) fun xv z ⟨v, H1, J, rv, got⟩ => ?_
  obtain ⟨a, rfl, ⟨rows, isT, trip⟩, rest⟩ := got
  obtain ⟨t, rfl⟩ := _root_.id rv
  refine wpAny_pyIter_str fun io St W st0 => ?_
  have atP : z.heap.get? P = some { cls := .none, data := .fields rows } := J.hok P _ isT
  have ltP : P < z.heap.objs.size := Heap.lt_size atP
  have atP2 : (z.heap.push io).get? P = some { cls := .none, data := .fields rows } := Heap.get?_push_of_some _ atP
  have chd : PySem.W.CodeHd (z.heap.push io) c P := tab.code.keeps fun b u q => Heap.get?_push_of_some _ (J.bk b u q)
  have nl : (z.heap.push io).NoLimit := J.nolimit.push io
  have go : ∀ (cv : Value) (h3 : Heap) (tk : Nat) (rows' : Array Value), Heap.ExtBut P (z.heap.push io) h3 → (z.heap.push io).objs.size ≤ h3.objs.size →
      h3.get? P = some { cls := .none, data := .fields rows' } → (∃ more, rows' = rows ++ more) → TriplesOk rows'.toList →
      wpAny (model X.prog X.w) X.A (builtinsFor X.env.globals X.env.builtins) (fun bi s4 =>
        ∃ Ia fp wr n0 Pf S0 pz F, Value.ref z.heap.objs.size = .ref Ia ∧ (∀ B : Around, B.handled = none → Walks X.prog X.w B Ia fp wr n0 Pf S0) ∧
          S0 0 s4.heap ∧ (∀ b ∈ fp, b < s4.heap.objs.size) ∧ s4.heap.NoLimit ∧ cStatics ∉ wr ∧
          (∀ hr : Heap, (∀ b o, s4.heap.get? b = some o → hr.get? b = some o) →
            QuietGen X.prog X.w (genEnv sc (cloFrom X.env.cells sc.names []) s4.heap.objs.size cv bi X.env) x [] e (List.range s4.heap.objs.size) wr Pf pz F hr) ∧
          (∀ g h5 tk gst, gst.bare = true → s4.heap.objs.size < g → h5.objs.size = g + 1 → (∀ b o, s4.heap.get? b = some o → h5.get? b = some o) →
            WalksS X.prog X.w X.A.in4 g (g :: s4.heap.objs.size :: List.range s4.heap.objs.size) (s4.heap.objs.size :: wr) (GenOnlyQ s4.gens.size) (passing pz n0 0).length
              (fun j y => ∃ i, (passing pz n0 0)[j]? = some i ∧ F i y) (GenAt X.prog X.w X.A.in4 g s4.gens.size s4.heap.objs.size (List.range s4.heap.objs.size) wr pz n0 F) →
            GenAt X.prog X.w X.A.in4 g s4.gens.size s4.heap.objs.size (List.range s4.heap.objs.size) wr pz n0 F 0 { s4 with gens := s4.gens.push gst, toks := tk, heap := h5 } →
            G (.ref g) { s4 with gens := s4.gens.push gst, toks := tk, heap := h5 })) X.xe { z with heap := h3, toks := tk } := by
    intro cv h3 tk rows' ext le3 at3 grown trip3
    obtain ⟨bm, ob, b1, b2, b3, b4, b5, b6, b7, b8⟩ := tab.bm
    have cP : cStatics ≠ P := fun q => by
      obtain ⟨_, ns, _⟩ := J.nolimit
      obtain ⟨o9, es, ep, g9, d9, _⟩ := ns
      rw [q, atP] at g9; cases g9; cases d9
    have cLt : cStatics < z.heap.objs.size := let ⟨_, ns, _⟩ := J.nolimit; ns.lt
    have szI : (z.heap.push io).objs.size = z.heap.objs.size + 1 := Heap.size_push ..
    have kp3 : ∀ b u, b ≠ P → z.heap.get? b = some u → h3.get? b = some u := fun b u nb q => ext b u nb (Heap.get?_push_of_some _ q)
    have kpB : ∀ b u, X.base.get? b = some u → h3.get? b = some u ∧ b < z.heap.objs.size := fun b u q => by
      obtain ⟨q1, q2⟩ := J.bs b u q
      exact ⟨kp3 b u (fun zz => by rw [zz, isT] at q2; cases q2) q1, Heap.lt_size q1⟩
    refine wpAny_builtinsFor (m := X.mg) (by rw [J.ok.glob]; exact ((J.mod.glob.keeps J.bk).push io).extBut ext tab.gP) b1 b2 (kp3 _ _ b4 (J.bk _ _ b5)) b6 b7 b8 ?_
    refine ⟨z.heap.objs.size, [z.heap.objs.size], [z.heap.objs.size], a.cps.size, SignAt a, St, (fun _ => true), (fun i y => ∃ cc, a.cps[i]? = some cc ∧ y = .bool (pb cc)), rfl, W,
      ?_, ?_, nl.extBut ext cP, ?_, ?_, ?_⟩
    · refine (W X.A room.hd).frame _ _ _ st0 fun b hb u q => ext b u (fun zz => ?_) q
      rcases List.mem_cons.mp hb with z2 | z2
      · exact Nat.ne_of_lt ltP (zz.symm.trans z2)
      · cases z2
    · intro b hb
      rcases List.mem_cons.mp hb with q | q
      · rw [q]; show z.heap.objs.size < h3.objs.size; omega
      · cases q
    · intro q
      rcases List.mem_cons.mp q with q | q
      · exact Nat.ne_of_lt cLt q
      · cases q
    · intro hr hhr
      refine ⟨fun B E' i v s2 m2 hB hPv hn hm hk => ?_, fun B E' i v s2 m2 hB hPv hp hn hm hk => ?_⟩
      · simp only [List.forIn_nil]
        exact wpAny_pure ⟨rfl, GxR.keeps_refl _⟩
      · obtain ⟨cc, u, hcc, rfl⟩ := hPv
        refine wpAny_mono (pel _ B E' cc u s2 m2 rfl J.ok.glob (fun b o q => ?_) hn hm) (fun y s3 r => ⟨⟨cc, hcc, r.1⟩, r.2⟩) fun _ _ q => q
        obtain ⟨q1, q2⟩ := kpB b o q
        exact hk b (List.mem_range.mpr (Heap.lt_size q1)) (fun zz => by
          rcases List.mem_cons.mp zz with zz | zz
          · exact Nat.ne_of_lt q2 zz
          · cases zz) o (hhr b o q1)
    · intro g h5 tk5 gst bare gt sz5 kp5 W5 at0
      simp only [GxR.passing_true, List.length_range] at W5
      refine fin a H1 g _ rest ⟨_, _, _, _, _, W5.in4_1, at0, ?_, fun s9 mv => ?_⟩
      · intro j y sj Qj Ej hy hQj
        obtain ⟨i, hij, cc, hcc, rfl⟩ := hy
        obtain ⟨hj, ej⟩ := List.getElem?_eq_some_iff.mp hij
        rw [List.getElem_range] at ej
        subst ej
        have q9 : a.cps.toList[j]? = some cc := by rw [Array.getElem?_toList]; exact hcc
        have hQ2 : Qj (GxR.trF pb a.cps.toList j) sj := hQj
        rw [GxR.trF_some q9] at hQ2
        exact wpAny_truthy_bool hQ2
      · obtain ⟨more, em⟩ := grown
        have nw : ∀ b u, z.heap.get? b = some u → b ∉ h3.objs.size :: [z.heap.objs.size] := fun b u q hb => by
          have lb := Heap.lt_size q
          rcases List.mem_cons.mp hb with q | q
          · rw [q] at lb
            have q9 : (h3.objs.size : Nat) < z.heap.objs.size := lb
            omega
          · rcases List.mem_cons.mp q with q | q
            · rw [q] at lb; exact Nat.lt_irrefl _ lb
            · cases q
        have J2 := GxR.inv_tab (more := more) (h' := s9.heap) (g' := s9.gens) (d' := s9.drawn) (t' := s9.toks) J isT (fun b u nb q => mv.heap b u (nw b u q) (kp5 b u (kp3 b u nb q)))
          (by rw [← em]; exact mv.heap P _ (nw P _ atP) (kp5 P _ at3)) (AllBare.movedS (J.bare.push bare) mv)
        rw [GxR.sh_eta z s9 mv.os] at J2
        exact ⟨upd H1 P (.tbl (rows ++ more)), ⟨⟨rows ++ more, upd_same, by rw [← em]; exact trip3⟩, fun b nb => upd_ne nb⟩, J2⟩
  refine ⟨nl, ?_⟩
  cases am : codeAmong gp rows.toList with
  | none =>
    refine wpAny_genexprCodeX code (chd.code atP2 trip) (chd.tab atP2) am fun c' h' tk hx hge hlt hco _ htab _ => ?_
    obtain ⟨o1, vs, f1, tf, fl, tg, inF, tx, tt, op, _, _, _, _, _, _, _, _, _, htr, _⟩ := hco
    exact go _ h' tk _ hx (Nat.le_trans hge (Nat.le_of_lt hlt)) htab.2 ⟨_, rfl⟩ htr
  | some cv =>
    refine wpAny_genexprCode_hit code (chd.code atP2 trip) am ?_
    exact go cv (z.heap.push io) z.toks rows (Heap.ExtBut.refl _ _) (Nat.le_refl _) atP2 ⟨#[], by simp⟩ trip

/-- all(e for x in a text) -/
theorem pe_allB {c P : Addr} {e it : Expr} {x : Str} {px p pos gp : Pos} {sc : Scope} {pb : Nat → Bool} {te : TE} {k : Nat}
    (room : Room k X.A) (hg : Gl X "all") (hm : X.mg "all" = none) (tab : GxR.TabB X.base X.mg c P) (code : X.env.code = .ref c) (gs : GxR.GenS X.env sc x) (pit : PE X it te) (pel : EltB X sc x e pb)
    (fold : ∀ v, genFold it X.env v = pure v)
    (he : starEach [.GeneratorExp e [⟨.Name x px, it, [], 0⟩] sc gp] X.env = (false, eval (.GeneratorExp e [⟨.Name x px, it, [], 0⟩] sc gp) X.env) :: starEach [] X.env := by rfl) :
    PE X (.Call (.Name "all" p) [.GeneratorExp e [⟨.Name x px, it, [], 0⟩] sc gp] [] pos) (GxR.tAllS P pb te) := by
  refine ⟨fun pins s σ H Q I want => ?_⟩
  have hb : bootBuiltins "all" = some (.builtin "all") := by decide +kernel
  refine wpAny_Call_Name_kw (ld_blt I hg hm hb ?_)
  refine PyProof.Rows.callWith_builtin1 ?_ he (by rfl)
  rw [he]
  show wpAny _ _ (spliced ((false, eval (.GeneratorExp e [⟨.Name x px, it, [], 0⟩] sc gp) X.env) :: backTo pos (starEach [] X.env))) _ _ s
  refine Calls.spliced_cons (genB (R := fun a H1 => ∀ H2, GxR.Tabbed P H1 H2 → Q (.bl (a.cps.toList.all pb)) H2) room tab code gs pit pel fold I want fun a H1 g s5 hR rd => ?_)
  obtain ⟨fp, wr, G, F, St, W, hst, htr, hI⟩ := rd
  refine Calls.spliced_nil ?_
  refine call_all_walkS (W.self 0 _ _ _ hst ⟨g, fp, wr, G, _, F, St, _, rfl, W, hst, htr, fun s' mv => ?_⟩)
  obtain ⟨H2, hT, J⟩ := hI s' mv
  refine ⟨.bl _, H2, J, rfl, ?_⟩
  rw [GxR.all_signs a pb]
  exact hR H2 hT

/-- x in NAME: NAME a text of the module -/
theorem elt_in {sc : Scope} {x y z : Str} {tz : Tok} {p1 p2 p3 : Pos} (gls : X.base.Ns mainGlobals X.mg) (hk : sc.kind = .function) (hl : sc.names.lookup x = some .local)
    (hy : sc.names.lookup y = some .globalImplicit) (hm : X.mg y = some (.str z tz)) (hd : (x == ("__debug__" : Str)) = false := by decide) (hd2 : (y == ("__debug__" : Str)) = false := by decide) :
    EltB X sc x (.Compare (.Name x p1) [.In] [.Name y p2] p3) (fun c => decide (c ∈ z.cps.toList)) := by
  intro ge B F c t q m hs hgl kb hn hx
  refine wpAny_Compare1 ?_
  refine wpAny_Name (wpAny_loadName_local (by rw [hs]; exact hk) (show ge.scope.names.lookup x = some .local by rw [hs]; exact hl) hn hx ?_) hd
  refine Calls.Name_function_global (by rw [hs]; exact hk) ?_ (Calls.loadGlobal_global (by rw [hgl]; exact gls.keeps kb) hm ?_) hd2
  · show ge.scope.names.lookup y = some .globalImplicit
    rw [hs]; exact hy
  · refine PyProof.Rows.in_str ⟨?_, GxR.keeps_refl _⟩
    rw [PySem.StrLaws.found_one z c]
end
end Kk

namespace Kk
open PySem PySem.Spec PyProof.Rows L2

/-- no table of a code object -/
def NoTb (o : HO) : Prop := ∀ ps, o ≠ .tbl ps
theorem nt_lst {xs : List V} : NoTb (.lst xs) := fun _ h => by cases h
theorem nt_tup {xs : List V} : NoTb (.tup xs) := fun _ h => by cases h
theorem nt_dK {xs : List (Key × V)} : NoTb (.dK xs) := fun _ h => by cases h
theorem nt_frz {o : Obj} {u : HO} : NoTb (.frz o u) := fun _ h => by cases h
/-- what never changes -/
def Fx : HO → Bool
  | .tup _ => true
  | .frz _ _ => true
  | _ => false
/-- what stands stays, but for xs and what the tables grow by; nothing vanishes; tuples stay -/
structure Ex (xs : List Addr) (H H' : Hp) : Prop where
  a : ∀ b o, b ∉ xs → H b = some o → NoTb o → H' b = some o
  c : ∀ b o, H b = some o → Fx o = true → H' b = some o
  t : ∀ P, GxR.TabG H P → GxR.TabG H' P
  f : ∀ b, H' b = none → H b = none
theorem Ex.refl {xs : List Addr} {H : Hp} : Ex xs H H := ⟨fun _ _ _ h _ => h, fun _ _ h _ => h, fun _ h => h, fun _ h => h⟩
theorem Ex.trans {xs : List Addr} {H H1 H2 : Hp} (a : Ex xs H H1) (b : Ex xs H1 H2) : Ex xs H H2 :=
  ⟨fun c o n h t => b.a c o n (a.a c o n h t) t, fun c o h t => b.c c o (a.c c o h t) t, fun P h => b.t P (a.t P h), fun c h => a.f c (b.f c h)⟩
theorem Ex.mono {xs ys : List Addr} {H H' : Hp} (a : Ex xs H H') (s : ∀ b, b ∈ xs → b ∈ ys) : Ex ys H H' := ⟨fun c o n h t => a.a c o (fun q => n (s c q)) h t, a.c, a.t, a.f⟩
theorem Ex.nil {ys : List Addr} {H H' : Hp} (a : Ex [] H H') : Ex ys H H' := a.mono fun _ q => by cases q
theorem tab_upd {H : Hp} {P p : Addr} {o : HO} (t : GxR.TabG H P) (n : ∀ ps, H p ≠ some (.tbl ps)) : GxR.TabG (upd H p o) P := by
  obtain ⟨ps, h, q⟩ := t
  refine ⟨ps, ?_, q⟩
  rw [upd_ne fun z => n ps (by rw [← z]; exact h)]
  exact h
theorem upd_free {H : Hp} {p b : Addr} {o : HO} (h : upd H p o b = none) : H b = none := by
  by_cases z : b = p
  · rw [z, upd_same] at h; cases h
  · rw [upd_ne z] at h; exact h
theorem Ex.new {xs : List Addr} {H : Hp} {p : Addr} {o : HO} (n : H p = none) : Ex xs H (upd H p o) :=
  ⟨fun b u _ h _ => by rw [upd_ne (ne_of_none h n)]; exact h, fun b u h _ => by rw [upd_ne (ne_of_none h n)]; exact h, fun P h => tab_upd h fun ps z => (by rw [n] at z; cases z), fun b h => upd_free h⟩
theorem Ex.put {xs : List Addr} {H : Hp} {p : Addr} {u o : HO} (h0 : H p = some u) (nt : NoTb u) (m : p ∈ xs) (fx : Fx u = false := by rfl) : Ex xs H (upd H p o) :=
  ⟨fun b w nb h _ => by rw [upd_ne fun z => nb (by rw [z]; exact m)]; exact h, fun b w h k => (by
    have nb : b ≠ p := fun z => by rw [z, h0] at h; cases h; rw [fx] at k; cases k
    rw [upd_ne nb]; exact h), fun P h => tab_upd h fun ps z => (by rw [h0] at z; cases z; exact nt _ rfl), fun b h => upd_free h⟩
/-- an object of one's own, made on the way, may have changed -/
theorem Ex.own {xs : List Addr} {H H1 H' : Hp} {p : Addr} (n : H p = none) (e : Ex xs H H1) (a : Ex (p :: xs) H1 H') : Ex xs H H' :=
  ⟨fun b u nb h t => a.a b u (fun q => by
      rcases List.mem_cons.mp q with z | z
      · rw [z, n] at h; cases h
      · exact nb z) (e.a b u nb h t) t, fun b u h k => a.c b u (e.c b u h k) k, fun P h => a.t P (e.t P h), fun b h => e.f b (a.f b h)⟩
theorem Ex.lst {xs : List Addr} {H H' : Hp} {p : Addr} {ys : List V} (a : Ex xs H H') (h : H p = some (.lst ys)) (n : p ∉ xs := by simp) : H' p = some (.lst ys) := a.a p _ n h nt_lst
theorem Ex.dK {xs : List Addr} {H H' : Hp} {p : Addr} {ys : List (Key × V)} (a : Ex xs H H') (h : H p = some (.dK ys)) (n : p ∉ xs := by simp) : H' p = some (.dK ys) := a.a p _ n h nt_dK
theorem Ex.tup {xs : List Addr} {H H' : Hp} {p : Addr} {ys : List V} (a : Ex xs H H') (h : H p = some (.tup ys)) : H' p = some (.tup ys) := a.c p _ h rfl
theorem Ex.seqL {K : PySem.W.Frag} {xs : List Addr} {H H' : Hp} {p : Addr} {ys : List V} (a : Ex xs H H') (h : SqL K H p ys) (n : p ∉ xs := by simp) : SqL K H' p ys := by
  rcases h with (h | ⟨o, h⟩) | h
  · exact .inl (.inl (a.a p _ n h nt_lst))
  · exact .inl (.inr ⟨o, a.c p _ h rfl⟩)
  · exact .inr h
theorem Ex.seqT {K : PySem.W.Frag} {xs : List Addr} {H H' : Hp} {p : Addr} {ys : List V} (a : Ex xs H H') (h : SqT K H p ys) : SqT K H' p ys := by
  rcases h with (h | ⟨o, h⟩) | h
  · exact .inl (.inl (a.c p _ h rfl))
  · exact .inl (.inr ⟨o, a.c p _ h rfl⟩)
  · exact .inr h
theorem Ex.tabbed {xs : List Addr} {H H' : Hp} {P : Addr} (t : GxR.TabG H P) (k : GxR.Tabbed P H H') : Ex xs H H' := by
  obtain ⟨ps, e, _⟩ := t
  have st : ∀ b o, H b = some o → NoTb o → H' b = some o := fun b o h nt => by
    rw [k.2 b fun z => by rw [z, e] at h; cases h; exact nt _ rfl]; exact h
  refine ⟨fun b o _ h nt => st b o h nt, fun b o h fx => st b o h fun ps z => (by rw [z] at fx; cases fx), fun Q q => ?_, fun b h => ?_⟩
  · by_cases z : Q = P
    · rw [z]; exact k.1
    · obtain ⟨qs, h, r⟩ := q
      exact ⟨qs, by rw [k.2 Q z]; exact h, r⟩
  · by_cases z : b = P
    · obtain ⟨⟨qs, h', _⟩, _⟩ := k
      rw [z, h'] at h; cases h
    · rw [k.2 b z] at h; exact h

/-! data: texts, ints, truths, None, and tuples of these -/
mutual
inductive Tp (K : PySem.W.Frag) (H : Hp) : V → PyData → Prop
  | non : Tp K H .non .none
  | bl (b : Bool) : Tp K H (.bl b) (.bool b)
  | int (i : Int) : Tp K H (.int i) (.int i)
  | str (x : Str) : Tp K H (.str x) (.str x)
  | tup {a : Addr} {xs : List V} {ds : List PyData} : SqT K H a xs → TpAll K H xs ds → Tp K H (.ref a) (.tuple ds)
inductive TpAll (K : PySem.W.Frag) (H : Hp) : List V → List PyData → Prop
  | nil : TpAll K H [] []
  | cons {v : V} {vs : List V} {d : PyData} {ds : List PyData} : Tp K H v d → TpAll K H vs ds → TpAll K H (v :: vs) (d :: ds)
end
section
variable {K : PySem.W.Frag} {H H' : Hp} {xs : List Addr}
mutual
theorem Tp.ex (e : Ex xs H H') : ∀ {v : V} {d : PyData}, Tp K H v d → Tp K H' v d
  | _, _, .non => .non
  | _, _, .bl b => .bl b
  | _, _, .int i => .int i
  | _, _, .str x => .str x
  | _, _, .tup h r => .tup (e.seqT h) (TpAll.ex e r)
theorem TpAll.ex (e : Ex xs H H') : ∀ {vs : List V} {ds : List PyData}, TpAll K H vs ds → TpAll K H' vs ds
  | _, _, .nil => .nil
  | _, _, .cons h r => .cons (Tp.ex e h) (TpAll.ex e r)
end
mutual
theorem Tp.dp : ∀ {v : V} {d : PyData}, Tp K H v d → Dp K H v d
  | _, _, .non => .non
  | _, _, .bl b => .bl b
  | _, _, .int i => .int i
  | _, _, .str x => .str x
  | _, _, .tup h r => .tup h (TpAll.dp r)
theorem TpAll.dp : ∀ {vs : List V} {ds : List PyData}, TpAll K H vs ds → DpAll K H vs ds
  | _, _, .nil => .nil
  | _, _, .cons h r => .cons (Tp.dp h) (TpAll.dp r)
end
theorem TpAll.len {vs : List V} {ds : List PyData} (h : TpAll K H vs ds) : vs.length = ds.length := by
  induction vs generalizing ds with
  | nil => cases h; rfl
  | cons v vs ih => cases h with | cons a b => rw [List.length_cons, List.length_cons, ih b]
theorem TpAll.get {vs : List V} {ds : List PyData} (h : TpAll K H vs ds) : ∀ {i : Nat} {v : V}, vs[i]? = some v → ∃ d, ds[i]? = some d ∧ Tp K H v d := by
  induction vs generalizing ds with
  | nil => intro i v e; simp at e
  | cons v0 vs ih =>
    cases h with
    | cons a b =>
      intro i v e
      cases i with
      | zero => cases e; exact ⟨_, rfl, a⟩
      | succ i => exact ih b (i := i) (by simpa using e)
theorem TpAll.app {vs us : List V} {ds es : List PyData} (h : TpAll K H vs ds) (g : TpAll K H us es) : TpAll K H (vs ++ us) (ds ++ es) := by
  induction vs generalizing ds with
  | nil => cases h; exact g
  | cons v vs ih => cases h with | cons a b => exact .cons a (ih b)
theorem TpAll.strs : ∀ ws : List Str, TpAll K H (ws.map V.str) (ws.map PyData.str)
  | [] => .nil
  | w :: ws => .cons (.str w) (TpAll.strs ws)
theorem Tp.new {p : Addr} {ts : List V} {ds : List PyData} (n : H p = none) (h : TpAll K H ts ds) : Tp K (upd H p (.tup ts)) (.ref p) (.tuple ds) :=
  .tup (.of upd_same) (h.ex (.new (xs := []) n))
end

/-- a def whose code object is known: its generators' codes go into its own table -/
theorem okC {P : Program} {w : World} {K : PySem.W.Frag} {mg : Str → Option Value} {base : Heap} {x qual : Str} {st : Stmt} {f c : Addr} {N ps : List Str} {k : Nat} {sp : Sp}
    {oc : Value} {od an : Option Addr} {osl : Array (Option Value)} {kV doc pm ct : Value}
    (lk : K.lookup f = some ⟨oc, od, .func (PySem.W.fnOf x qual (defArgs st) (defBody st) (defScope st) .none kV doc pm an (.ref c) ct), osl⟩) (hc : PySem.W.codeIn K (.ref c) qual = true)
    (S : FnScope N ps (defScope st)) (len : ∀ vs H Q E, sp vs H Q E → vs.length = ps.length)
    (body : ∀ (A : Around) (outer : List Env) (s : Shared) (H : Hp) (vs : List V) (Q : VK) (E : XK), Room k (A.deeper (envOfC qual (defScope st) s.heap.objs.size f (.ref c))) → sp vs H Q E →
      ∃ t, PSs (cxOf CX0 P w K mg base N qual (defScope st) f (.ref c) A outer s H E).nox (defBody st) t ∧ t { nx := fun _ H' => Q .non H', rt := Q } (start N vs) H) :
    FnOk P w K mg base CX0 (k + 1) f (PySem.W.fnOf x qual (defArgs st) (defBody st) (defScope st) .none kV doc pm an (.ref c) ct) ps sp := by
  refine fn_of lk hc S len fun A outer s H vs Q E hr hsp => ?_
  obtain ⟨t, h, q⟩ := body A outer s H vs Q E hr hsp
  exact ⟨t, h.nox, q⟩
/-- a def that may be called: its promise, where it stands, how its arguments come -/
structure Cl (P : Program) (w : World) (K : PySem.W.Frag) (mg : Str → Option Value) (base : Heap) (k : Nat) (x : Str) (ps : List Str) (sp : Sp) (f : Addr) (fd : FuncData) : Prop where
  g : FnOk P w K mg base CX0 k f fd ps sp
  k : PySem.W.keepIn K (.ref f) = true
  b : Binds K fd ps []
  m : mg x = some (.ref f)
/-- where a def stands -/
structure At (K : PySem.W.Frag) (mg : Str → Option Value) (x : Str) (st : Stmt) (ps : List Str) (f : Addr) (fd : FuncData) : Prop where
  F : Fun K x x st f fd
  b : Binds K fd ps []
  m : mg x = some (.ref f)
theorem At.cl {P : Program} {w : World} {K : PySem.W.Frag} {mg : Str → Option Value} {base : Heap} {x : Str} {st : Stmt} {ps : List Str} {f : Addr} {fd : FuncData} {j k : Nat} {sp : Sp} (A : At K mg x st ps f fd) (g : FnOk P w K mg base CX0 j f fd ps sp) (h : j ≤ k) :
    Cl P w K mg base k x ps sp f fd := ⟨g.mono h, A.F.kp, A.b, A.m⟩
/-- nothing is promised of a call that never comes -/
theorem ok_never {P : Program} {w : World} {K : PySem.W.Frag} {mg : Str → Option Value} {base : Heap} {k : Nat} {ps : List Str} {f : Addr} {fd : FuncData} : FnOk P w K mg base CX0 k f fd ps (fun _ _ _ _ => False) :=
  ⟨fun _ _ _ _ h => h.elim, fun _ _ _ _ _ _ _ _ _ _ _ _ _ h => h.elim⟩
def rLenK (K : PySem.W.Frag) : List V → Hp → VK → Prop := fun xs H Q => ∃ p ys, xs = [V.ref p] ∧ (SqL K H p ys ∨ SqT K H p ys) ∧ Q (V.int ys.length) H
/-- within a comprehension: the written part is the def's own -/
theorem call_lenK {X : Cx} {K : PySem.W.Frag} (h : X.K = K) : CallR X (.builtin "len") (rLenK K) := by subst h; exact call_len_seq
theorem ix_listK {X : Cx} {K : PySem.W.Frag} (h : X.K = K) : IxR X (rIxL K) := by subst h; exact ix_list
theorem ix_tupK {X : Cx} {K : PySem.W.Frag} (h : X.K = K) : IxR X (rIxT K) := by subst h; exact ix_tup
theorem op_mul_str {X : Cx} : OpR X (binaryOp .Mult) (fun x y H Q => ∃ z n, x = .str z ∧ y = .int n ∧ MulOk z n ∧ Q (.str (Txt.mul z n)) H) := by
  intro pins s σ H x y v u Q I rx ry h
  obtain ⟨z, n, rfl, rfl, ok, q⟩ := h
  obtain ⟨t, rfl⟩ := rx
  obtain ⟨t', rfl⟩ := ry
  exact SB.mul ok fun t2 k => ⟨.str _, H, I.tok k, ⟨_, rfl⟩, q⟩
/-- a list held against the empty one -/
theorem op_eq_nil {X : Cx} {k : Nat} (hr : Room k X.A) : OpR X (compareOp .Eq) (fun x y H Q => ∃ a b xs, x = .ref a ∧ y = .ref b ∧ SqL X.K H a xs ∧ SqL X.K H b [] ∧ Q (.bl xs.isEmpty) H) := by
  intro pins s σ H x y v u Q I rx ry h
  obtain ⟨a, b, xs, rfl, rfl, ha, hb, q⟩ := h
  cases (show v = Value.ref a from rx)
  cases (show u = Value.ref b from ry)
  obtain ⟨its, r, pl, hz⟩ := I.list ha
  obtain ⟨its2, r2, pl2, hz2⟩ := I.list hb
  have e2 : its2 = [] := List.length_eq_zero_iff.mp r2.length.symm
  subst e2
  cases xs with
  | nil =>
    have e1 : its = [] := List.length_eq_zero_iff.mp r.length.symm
    subst e1
    exact SeqAt.eq_listAt (e := fun _ => true) pl.isList pl2.isList rfl hr.units0 (fun j h1 _ => absurd h1 (Nat.not_lt_zero j)) ⟨.bl true, H, I, rfl, q⟩
  | cons z zs =>
    have e1 : its.length = zs.length + 1 := r.length.symm
    refine SeqAt.eq_list_lengthsAt pl.isList pl2.isList ?_ hr.units0 ⟨.bl false, H, I, rfl, q⟩
    simp [e1]
end Kk

namespace Kk
open PySem PySem.Spec PyProof.Rows L2
/-! places: a text, then numbers -/
def plV (nm : Str) (p : List Nat) : List V := .str nm :: p.map fun n => V.int (n : Nat)
def plD (nm : Str) (p : List Nat) : PyData := .tuple (.str nm :: p.map fun n => PyData.int (n : Nat))
def plK (nm : Str) (p : List Nat) : List L2.Key := Sum.inr nm :: p.map fun n => Sum.inl ((n : Nat) : Int)
def plO (nm : Str) (p : List Nat) : List (Int ⊕ List Nat) := Sum.inr nm.cps.toList :: p.map fun n => Sum.inl ((n : Nat) : Int)
def leP (nm : Str) (p q : List Nat) : Prop := PyProof.Rows.lexLt PyProof.Rows.itemOrd (plO nm q) (plO nm p) = false
theorem plK_v (nm : Str) (p : List Nat) : (plK nm p).map kV = plV nm p := by
  unfold plK plV
  rw [List.map_cons, List.map_map]; rfl
theorem nat_map_inj {α : Type} {f : Nat → α} (hf : ∀ a b, f a = f b → a = b) : ∀ {p q : List Nat}, p.map f = q.map f → p = q
  | [], [], _ => rfl
  | [], _ :: _, h => by cases h
  | _ :: _, [], h => by cases h
  | a :: p, b :: q, h => by
    rw [List.map_cons, List.map_cons] at h
    obtain ⟨h1, h2⟩ := List.cons.inj h
    rw [hf a b h1, nat_map_inj hf h2]
theorem plK_inj {nm : Str} {p q : List Nat} (h : plK nm p = plK nm q) : p = q :=
  nat_map_inj (fun a b e => by have := Sum.inl.inj e; omega) (List.cons.inj h).2
theorem plO_inj {nm : Str} {p q : List Nat} (h : plO nm p = plO nm q) : p = q :=
  nat_map_inj (fun a b e => by have := Sum.inl.inj e; omega) (List.cons.inj h).2
theorem plD_inj {nm : Str} {p q : List Nat} (h : plD nm p = plD nm q) : p = q := by
  have h1 := PyData.tuple.inj h
  exact nat_map_inj (fun a b e => by have := PyData.int.inj e; omega) (List.cons.inj h1).2
theorem leP_anti {nm : Str} {p q : List Nat} (h : leP nm p q) (g : leP nm q p) : p = q :=
  plO_inj ((PyProof.Rows.listOrd PyProof.Rows.itemOrd).total _ _ g h)
theorem perm_uniq {α : Type} {R : α → α → Prop} (anti : ∀ a b, R a b → R b a → a = b) : ∀ {l m : List α}, l.Pairwise R → m.Pairwise R → l.Perm m → l = m
  | [], m, _, _, h => (List.Perm.eq_nil h.symm).symm
  | x :: l, [], _, _, h => absurd h.length_eq (by simp)
  | x :: l, y :: m, hl, hm, h => by
    have e : x = y := by
      rcases List.mem_cons.mp (h.mem_iff.mp (List.mem_cons_self (a := x) (l := l))) with e | hx
      · exact e
      · rcases List.mem_cons.mp (h.mem_iff.mpr (List.mem_cons_self (a := y) (l := m))) with e | hy
        · exact e.symm
        · exact anti x y (List.rel_of_pairwise_cons hl hy) (List.rel_of_pairwise_cons hm hx)
    subst e
    rw [perm_uniq anti (List.pairwise_cons.mp hl).2 (List.pairwise_cons.mp hm).2 h.cons_inv]
section
variable {K : PySem.W.Frag} {H : Hp}
theorem ints_inv : ∀ {xs : List V} {p : List Nat}, TpAll K H xs (p.map fun n => PyData.int (n : Nat)) → xs = p.map fun n => V.int (n : Nat)
  | _, [], h => by cases h; rfl
  | _, n :: p, h => by
    cases h with
    | cons a b => cases a; rw [ints_inv b]; rfl
theorem ints_all (p : List Nat) : TpAll K H (p.map fun n => V.int (n : Nat)) (p.map fun n => PyData.int (n : Nat)) := by
  induction p with
  | nil => exact .nil
  | cons n p ih => exact .cons (.int _) ih
theorem tp_pl {v : V} {nm : Str} {p : List Nat} (h : Tp K H v (plD nm p)) : ∃ a, v = .ref a ∧ SqT K H a (plV nm p) := by
  unfold plD at h
  cases h with
  | tup hs ha =>
    cases ha with
    | cons a1 a2 =>
      cases a1
      have e := ints_inv a2
      subst e
      exact ⟨_, rfl, hs⟩
theorem pl_tp {a : Addr} {nm : Str} {p : List Nat} (h : SqT K H a (plV nm p)) : Tp K H (.ref a) (plD nm p) := .tup h (.cons (.str _) (ints_all p))
end
/-! two lists, item by item -/
inductive P2 {α β : Type} (R : α → β → Prop) : List α → List β → Prop
  | nil : P2 R [] []
  | cons {a : α} {b : β} {l : List α} {m : List β} : R a b → P2 R l m → P2 R (a :: l) (b :: m)
theorem P2.perm {α β : Type} {R : α → β → Prop} {l l' : List α} (p : l.Perm l') : ∀ {m : List β}, P2 R l m → ∃ m', m.Perm m' ∧ P2 R l' m' := by
  induction p with
  | nil => intro m h; exact ⟨m, List.Perm.refl _, h⟩
  | cons x _ ih =>
    intro m h
    cases h with
    | cons a b =>
      obtain ⟨m', q, r⟩ := ih b
      exact ⟨_ :: m', q.cons _, .cons a r⟩
  | swap x y l =>
    intro m h
    cases h with
    | cons a b =>
      cases b with
      | cons c d => exact ⟨_, List.Perm.swap _ _ _, .cons c (.cons a d)⟩
  | trans _ _ ih1 ih2 =>
    intro m h
    obtain ⟨m1, q1, r1⟩ := ih1 h
    obtain ⟨m2, q2, r2⟩ := ih2 r1
    exact ⟨m2, q1.trans q2, r2⟩
theorem P2.get {α β : Type} {R : α → β → Prop} {l : List α} {m : List β} (h : P2 R l m) : ∀ {i : Nat} {b : β}, m[i]? = some b → ∃ a, l[i]? = some a ∧ R a b := by
  induction h with
  | nil => intro i b e; simp at e
  | cons a _ ih =>
    intro i b e
    cases i with
    | zero => cases e; exact ⟨_, rfl, a⟩
    | succ i => exact ih (i := i) (by simpa using e)
theorem P2.len {α β : Type} {R : α → β → Prop} {l : List α} {m : List β} (h : P2 R l m) : l.length = m.length := by
  induction h with
  | nil => rfl
  | cons _ _ ih => rw [List.length_cons, List.length_cons, ih]
section
variable {K : PySem.W.Frag} {H : Hp}
theorem P2.tp {nm : Str} : ∀ {us : List V} {ps : List (List Nat)}, P2 (fun v p => Tp K H v (plD nm p)) us ps → TpAll K H us (ps.map (plD nm))
  | _, _, .nil => .nil
  | _, _, .cons a b => .cons a (P2.tp b)
theorem tp_p2 {nm : Str} : ∀ {us : List V} {ps : List (List Nat)}, TpAll K H us (ps.map (plD nm)) → P2 (fun v p => Tp K H v (plD nm p)) us ps
  | _, [], h => by cases h; exact .nil
  | _, p :: ps, h => by
    cases h with
    | cons a b => exact .cons a (tp_p2 b)
end
/-- a place, tracked -/
def PlT (nm : Str) (H : Hp) (v : V) (p : List Nat) : Prop := ∃ a, v = .ref a ∧ H a = some (.tup (plV nm p))
theorem PlT.tp {K : PySem.W.Frag} {H : Hp} {nm : Str} {v : V} {p : List Nat} (h : PlT nm H v p) : Tp K H v (plD nm p) := by
  obtain ⟨a, rfl, h⟩ := h
  exact pl_tp (.of h)
theorem PlT.ex {xs : List Addr} {H H' : Hp} {nm : Str} {v : V} {p : List Nat} (h : PlT nm H v p) (e : Ex xs H H') : PlT nm H' v p := by
  obtain ⟨a, rfl, h⟩ := h
  exact ⟨a, rfl, e.tup h⟩
theorem P2.imp {α β : Type} {R S : α → β → Prop} {l : List α} {m : List β} (h : P2 R l m) (f : ∀ a b, R a b → S a b) : P2 S l m := by
  induction h with
  | nil => exact .nil
  | cons a _ ih => exact .cons (f _ _ a) ih
theorem P2.app {α β : Type} {R : α → β → Prop} {l l' : List α} {m m' : List β} (h : P2 R l m) (g : P2 R l' m') : P2 R (l ++ l') (m ++ m') := by
  induction h with
  | nil => exact g
  | cons a _ ih => exact .cons a ih
theorem P2.getL {α β : Type} {R : α → β → Prop} {l : List α} {m : List β} (h : P2 R l m) : ∀ {i : Nat} {a : α}, l[i]? = some a → ∃ b, m[i]? = some b ∧ R a b := by
  induction h with
  | nil => intro i b e; simp at e
  | cons a _ ih =>
    intro i b e
    cases i with
    | zero => cases e; exact ⟨_, rfl, a⟩
    | succ i => exact ih (i := i) (by simpa using e)
theorem P2.pls {K : PySem.W.Frag} {H : Hp} {nm : Str} {us : List V} {ps : List (List Nat)} (h : P2 (PlT nm H) us ps) : TpAll K H us (ps.map (plD nm)) := by
  induction h with
  | nil => exact .nil
  | cons a _ ih => exact .cons a.tp ih
def sh0 : Nat → Bool := fun i => i == 0
theorem sh_succ (i : Nat) : sh0 (i + 1) = false := rfl
theorem it_ints : ∀ (p : List Nat) (i : Nat) {its : List Value}, Vals (p.map fun n => V.int (n : Nat)) its → PyProof.Rows.tupItems sh0 (i + 1) its = some (p.map fun n => Sum.inl ((n : Nat) : Int))
  | [], i, _, h => by cases h; rfl
  | n :: p, i, _, h => by
    cases h with
    | cons a b =>
      obtain ⟨t, rfl⟩ := a
      unfold PyProof.Rows.tupItems
      rw [sh_succ, if_neg (by decide), it_ints p (i + 1) b]; rfl
theorem it_pl {nm : Str} {p : List Nat} {its : List Value} (h : Vals (plV nm p) its) : PyProof.Rows.tupItems sh0 0 its = some (plO nm p) := by
  unfold plV at h
  cases h with
  | cons a b =>
    obtain ⟨t, rfl⟩ := a
    unfold PyProof.Rows.tupItems
    rw [if_pos (show sh0 0 = true from rfl), it_ints p 0 b]; rfl
section
variable {X : Cx} {pins : List (Addr × Obj)} {σ : L2.St} {H : Hp} {s : Shared}
/-- what the sort sees of a place -/
theorem key_pl {u : Value} {nm : Str} {p : List Nat} (I : Inv X pins σ H s) (hT : PlT nm H (backV u) p) (hr : ∃ a, u = Value.ref a) :
    G.tupKeyC s.heap sh0 u = some (plO nm p) ∧ ∃ f, PyProof.Rows.TupOf s.heap sh0 u f := by
  obtain ⟨a, rfl⟩ := hr
  have h : Tp X.K H (backV (.ref a)) (plD nm p) := hT.tp
  obtain ⟨b, e, hs⟩ := tp_pl h
  cases e
  obtain ⟨its, r, ⟨o, ho, hc, n, hd⟩, hz⟩ := I.tuple hs
  refine ⟨?_, ?_⟩
  · unfold G.tupKeyC
    have e1 : G.isTupObj s.heap (.ref a) = true := by simp [G.isTupObj, ho, hc]
    rw [if_pos e1]
    simp only [PyProof.Rows.tupKey, ho, hd]
    exact it_pl r
  · unfold plV at r
    cases r with
    | cons r1 r2 =>
      obtain ⟨t, rfl⟩ := r1
      exact ⟨_, a, o, _, n, rfl, ho, hc, hd, rfl, fun z => (by cases z), fun _ => ⟨_, _, rfl⟩⟩
theorem tups_pl {nm : Str} (I : Inv X pins σ H s) : ∀ {us : List Value} {ps : List (List Nat)}, P2 (PlT nm H) (us.map backV) ps → (∀ u ∈ us, ∃ a, u = Value.ref a) → ∃ fs, PyProof.Rows.TupsOf s.heap sh0 us fs
  | [], _, _, _ => ⟨[], .nil⟩
  | u :: us, _, h, hr => by
    rw [List.map_cons] at h
    cases h with
    | cons a b =>
      obtain ⟨f, hf⟩ := (key_pl I a (hr u List.mem_cons_self)).2
      obtain ⟨fs, hfs⟩ := tups_pl I b fun v hv => hr v (List.mem_cons_of_mem _ hv)
      exact ⟨f :: fs, .cons hf hfs⟩
theorem P2.memL {α β : Type} {R : α → β → Prop} {l : List α} {m : List β} (h : P2 R l m) {a : α} (ha : a ∈ l) : ∃ b, b ∈ m ∧ R a b := by
  induction h with
  | nil => cases ha
  | cons r _ ih =>
    rcases List.mem_cons.mp ha with e | e
    · rw [e]; exact ⟨_, List.mem_cons_self, r⟩
    · obtain ⟨b, h1, h2⟩ := ih e
      exact ⟨b, List.mem_cons_of_mem _ h1, h2⟩
/-- what a sort of places tells -/
theorem srt_pl {nm : Str} {vs : List Value} {ps : List (List Nat)} {arr : Array Keyed} (I : Inv X pins σ H s) (h : P2 (PlT nm H) (vs.map backV) ps) (hr : ∀ u ∈ vs, ∃ a, u = Value.ref a)
    (hp : arr.Perm (pairsOf vs)) (hs : SortedToK (G.tupKindC s.heap sh0) arr (pairsOf vs).size) :
    ∃ qs, qs.Perm ps ∧ qs.Pairwise (leP nm) ∧ P2 (PlT nm H) ((arr.map (·.2)).toList.map backV) qs ∧ (∀ u ∈ (arr.map (·.2)).toList, ∃ a, u = Value.ref a) ∧ (arr.map (·.2)).toList.length = vs.length := by
  have pl : arr.toList.Perm (vs.zip vs) := by
    have e := Array.perm_iff_toList_perm.mp hp
    rwa [pairsOf_toList] at e
  have po : (arr.map (·.2)).toList.Perm vs := by
    rw [Array.toList_map]
    have z := pl.map Prod.snd
    rwa [List.map_snd_zip (Nat.le_refl _)] at z
  have hr2 : ∀ u ∈ (arr.map (·.2)).toList, ∃ a, u = Value.ref a := fun u hu => hr u (po.mem_iff.mp hu)
  obtain ⟨qs, q1, q2⟩ := P2.perm (po.symm.map backV) h
  refine ⟨qs, q1.symm, ?_, q2, hr2, po.length_eq⟩
  have hlen : qs.length = vs.length := by
    have := q2.len
    rw [List.length_map, po.length_eq] at this
    exact this.symm
  have key : ∀ (i : Nat) (q : List Nat), qs[i]? = some q → KK (G.tupKindC s.heap sh0) arr i = plO nm q := fun i q hq => by
    obtain ⟨v, hv, tv⟩ := q2.get hq
    rw [List.getElem?_map, Array.toList_map, List.getElem?_map, Array.getElem?_toList] at hv
    cases hk : arr[i]? with
    | none => rw [hk] at hv; cases hv
    | some kd =>
      rw [hk] at hv
      cases hv
      have hm : kd ∈ arr.toList := List.mem_of_getElem? (by rw [Array.getElem?_toList]; exact hk)
      obtain ⟨e1, e2⟩ := mem_zip_self (pl.mem_iff.mp hm)
      have tv : PlT nm H (backV kd.2) q := tv
      have := (key_pl I tv (by rw [← e1]; exact hr _ e2)).1
      unfold KK
      rw [hk]
      show (G.tupKeyC s.heap sh0 kd.1).getD _ = _
      rw [e1, this]; rfl
  rw [List.pairwise_iff_getElem]
  intro i j hi hj hij
  have := hs i j (Nat.le_of_lt hij) (by rw [pairsOf_size]; omega)
  rw [key i _ (List.getElem?_eq_getElem hi), key j _ (List.getElem?_eq_getElem hj)] at this
  exact this
end
section
variable {X : Cx}
/-- sorted(a list of places) -/
def rSortP (K : PySem.W.Frag) : List V → Hp → VK → Prop := fun vs H Q => ∃ (a : Addr) (us : List V) (nm : Str) (ps : List (List Nat)), vs = [V.ref a] ∧ SqL K H a us ∧ P2 (PlT nm H) us ps ∧
  ∀ (ys : List V) (qs : List (List Nat)) (p : Addr), qs.Perm ps → qs.Pairwise (leP nm) → P2 (PlT nm H) ys qs → H p = none → Q (.ref p) (upd H p (.lst ys))
theorem cr_sortP : CallR X (.builtin "sorted") (rSortP X.K) := by
  intro pins s σ H vs us Q I r h
  obtain ⟨a, xs, nm, ps, rfl, hs, ht, q⟩ := h
  obtain ⟨its, rv, hl, hz⟩ := I.list hs
  obtain ⟨u, rfl, ru⟩ := vals1 r
  obtain rfl : u = Value.ref a := ru
  have h2 := ht
  obtain ⟨e1, e2⟩ := refs_back rv fun x m => by
    obtain ⟨p, _, tp⟩ := h2.memL m
    obtain ⟨t, e, _⟩ := tp
    exact ⟨t, e⟩
  rw [e1] at h2
  obtain ⟨fs, hfs⟩ := tups_pl I h2 e2
  refine G.sorted_tups (shape := sh0) (fs := fs) hl.isList hfs (fun v hv => ?_) (by rw [← rv.length]; exact hz) fun st' hp hso _ => ?_
  · obtain ⟨p, _, tp⟩ := h2.memL (List.mem_map_of_mem (f := backV) hv)
    exact ⟨_, (key_pl I tp (e2 v hv)).1⟩
  · obtain ⟨qs, q1, q3, q4, q5, q6⟩ := srt_pl I h2 e2 hp hso
    obtain ⟨ep, he'⟩ := sortedAll_at s.heap its ((arrOf st').map (·.2))
    have hlen : (((arrOf st').map (·.2)).toList.map backV).length ≤ sizeLine := by
      rw [List.length_map, q6, ← rv.length]; exact hz
    refine ⟨.ref _, upd H (s.heap.objs.size + 1) (.lst (((arrOf st').map (·.2)).toList.map backV)), I.laid (t' := s.toks) (fun _ _ z => sortedAll_old z) (Nat.le_succ _) ⟨hlen, ((arrOf st').map (·.2)).toList, ep, vals_back q5, ?_⟩, rfl,
      q _ qs _ q1 q3 q4 (I.hok.fresh (Nat.le_succ _))⟩
    rw [Array.toArray_toList]; exact he'
/-- the keys of a dict of places -/
def KeysP (nm : Str) (kvs : List (List L2.Key × V)) (ps : List (List Nat)) : Prop := kvs.map (·.1) = ps.map (plK nm)
theorem p2_keys {nm : Str} {H : Hp} : ∀ {kvs : List (List L2.Key × V)} {ks : List (List L2.Key × Addr × Value)} {ps : List (List Nat)}, L2.KT H kvs ks → KeysP nm kvs ps → P2 (PlT nm H) ((ks.map fun x => Value.ref x.2.1).map backV) ps
  | [], _, ps, r, e => by
    cases r
    cases ps with
    | nil => exact .nil
    | cons _ _ => cases e
  | kv :: kvs, _, ps, r, e => by
    cases r with
    | cons h t =>
      cases ps with
      | nil => cases e
      | cons p ps =>
        unfold KeysP at e
        rw [List.map_cons, List.map_cons] at e
        obtain ⟨e1, e2⟩ := List.cons.inj e
        refine .cons ?_ (p2_keys t e2)
        have h2 := h.2.1
        rw [e1, plK_v] at h2
        exact ⟨_, rfl, h2⟩
/-- sorted(a dict of places) -/
def rSortDP : List V → Hp → VK → Prop := fun vs H Q => ∃ (a : Addr) (kvs : List (List L2.Key × V)) (nm : Str) (ps : List (List Nat)), vs = [V.ref a] ∧ H a = some (.dT kvs) ∧ KeysP nm kvs ps ∧
  ∀ (ys : List V) (qs : List (List Nat)) (p : Addr), qs.Perm ps → qs.Pairwise (leP nm) → P2 (PlT nm H) ys qs → H p = none → Q (.ref p) (upd H p (.lst ys))
theorem cr_sortDP (hcalm : X.calm = true) : CallR X (.builtin "sorted") rSortDP := by
  intro pins s σ H vs us Q I r h
  obtain ⟨d, kvs, nm, ps, rfl, hd, hk, q⟩ := h
  obtain ⟨u, rfl, ru⟩ := vals1 r
  obtain rfl : u = Value.ref d := ru
  obtain ⟨z, hs, ks, pr, o, es, ep, ho, hx, hdt, he, hn⟩ := (show ObjOk X.prog X.w H s.heap d (.dT kvs) from I.hok d _ hd)
  have l1 : es.size = ks.length := size_of_entries he
  have l2 : kvs.length = ks.length := Paired.length pr
  refine Calls.call_function_entry kind_sorted plain_sorted entry_sorted (args_sorted1 _) ?_
  unfold Builtin.«sorted»
  refine wpAny_bind (m := checkCount "sorted" 1 1 _) (wpAny_pure ?_)
  refine wpAny_bind (PySem.W.kdu_collect (A := X.A.in1) (kdl_raw hs hx hdt) (I.ok.hd hcalm) ho (by omega) fun h' tk acc kp it => ?_)
  have ea : acc.toList = ks.map fun x => Value.ref x.2.1 := by
    have hl : acc.toList.length = ks.length := by rw [Array.length_toList, it.1]; exact l1
    refine List.ext_getElem? fun j => ?_
    rw [List.getElem?_map]
    cases hj : acc.toList[j]? with
    | none =>
      have h1 := List.getElem?_eq_none_iff.mp hj
      rw [List.getElem?_eq_none (show ks.length ≤ j by omega)]; rfl
    | some v =>
      obtain ⟨en, hen, hv⟩ := it.2 j v (by rw [← Array.getElem?_toList]; exact hj)
      have qe := entry_at he j
      rw [hen] at qe
      cases hb : ks[j]? with
      | none => rw [hb] at qe; cases qe
      | some b =>
        rw [hb] at qe
        have e2 := Option.some.inj qe
        rw [hv, e2]; rfl
  have h2 : P2 (PlT nm H) (acc.toList.map backV) ps := by rw [ea]; exact p2_keys pr hk
  have e2 : ∀ u ∈ acc.toList, ∃ a, u = Value.ref a := fun u hu => by
    rw [ea] at hu
    obtain ⟨x, _, e⟩ := List.mem_map.mp hu
    exact ⟨_, e.symm⟩
  have hal : acc.toList.length ≤ sizeLine := by rw [ea, List.length_map]; omega
  have I1 : Inv X pins σ H { s with heap := h', toks := tk } := I.kept kp
  have I2 : Inv X pins σ H { s with heap := h'.push (seqObj "list" acc.toList.toArray 0), toks := tk } := I1.kept (t' := tk) fun b u e => Heap.get?_push_of_some _ e
  refine wpAny_bind (wpAny_newList ?_ hal)
  have hoL : (h'.push (seqObj "list" acc.toList.toArray 0)).get? h'.objs.size = some (seqObj "list" acc.toList.toArray 0) := Heap.get?_push_size _ rfl
  show wpAny _ _ _ _ _ { s with heap := h'.push (seqObj "list" acc.toList.toArray 0), toks := tk }
  obtain ⟨fs, hfs⟩ := tups_pl I2 h2 e2
  refine wpAny_bind (wpAny_holding (wpAny_call_entry slot_list_sort ⟨_, hoL, rfl⟩ entry_list_sort
    (G.list_sort_tups (s := { s with heap := h'.push (seqObj "list" acc.toList.toArray 0), toks := tk }) (shape := sh0) (fs := fs) hoL hfs (fun v hv => ?_) hal fun st' hp hso _ => ⟨_, rfl, ?_⟩) (args_list_sort _)))
  · obtain ⟨p, _, tp⟩ := h2.memL (List.mem_map_of_mem (f := backV) hv)
    exact ⟨_, (key_pl I2 tp (e2 v hv)).1⟩
  · obtain ⟨qs, q1, q3, q4, q5, q6⟩ := srt_pl I2 h2 e2 hp hso
    obtain ⟨e', he'⟩ := sortedHeap_at (vs := acc.toList) (out := (arrOf st').map (·.2)) hoL
    have hlen : (((arrOf st').map (·.2)).toList.map backV).length ≤ sizeLine := by
      rw [List.length_map, q6]; exact hal
    refine wpAny_pure ⟨_, rfl, .ref h'.objs.size, upd H h'.objs.size (.lst (((arrOf st').map (·.2)).toList.map backV)), I1.laid (t' := tk) (fun b u e => ?_) (Nat.le_refl _)
      (show ObjOk X.prog X.w _ _ _ (.lst (((arrOf st').map (·.2)).toList.map backV)) from ⟨hlen, ((arrOf st').map (·.2)).toList, e', vals_back q5, by rw [Array.toArray_toList]; exact he'⟩), rfl, q _ qs _ q1 q3 q4 (I1.hok.fresh (Nat.le_refl _))⟩
    have hb : b < h'.objs.size := Heap.lt_size e
    rw [sortedHeap_old (Nat.ne_of_lt hb) (by rw [size_push']; exact Nat.lt_succ_of_lt hb)]
    exact Heap.get?_push_of_some _ e
end
end Kk

namespace Kk
open PySem PySem.Spec PyProof.Rows L2
/-! as KSortT, each with a text of its own -/
def PlQ (H : Hp) (v : V) (q : Str × List Nat) : Prop := PlT q.1 H v q.2
def leQ (p q : Str × List Nat) : Prop := PyProof.Rows.lexLt PyProof.Rows.itemOrd (plO q.1 q.2) (plO p.1 p.2) = false
theorem plO_injQ {p q : Str × List Nat} (h : plO p.1 p.2 = plO q.1 q.2) : p = q := by
  obtain ⟨a, b⟩ := p
  obtain ⟨c, d⟩ := q
  have h1 := (List.cons.inj h).1
  have h2 := (List.cons.inj h).2
  have e2 := nat_map_inj (fun a b e => by have := Sum.inl.inj e; omega) h2
  have e1 : a = c := TL.ext_tl (Sum.inr.inj h1)
  simp only at e2
  rw [e1, e2]
theorem leQ_anti {p q : Str × List Nat} (h : leQ p q) (g : leQ q p) : p = q := plO_injQ ((PyProof.Rows.listOrd PyProof.Rows.itemOrd).total _ _ g h)
section
variable {X : Cx} {pins : List (Addr × Obj)} {σ : L2.St} {H : Hp} {s : Shared}
theorem tups_q (I : Inv X pins σ H s) : ∀ {us : List Value} {ps : List (Str × List Nat)}, P2 (PlQ H) (us.map backV) ps → (∀ u ∈ us, ∃ a, u = Value.ref a) → ∃ fs, PyProof.Rows.TupsOf s.heap sh0 us fs
  | [], _, _, _ => ⟨[], .nil⟩
  | u :: us, _, h, hr => by
    rw [List.map_cons] at h
    cases h with
    | cons a b =>
      obtain ⟨f, hf⟩ := (key_pl I a (hr u List.mem_cons_self)).2
      obtain ⟨fs, hfs⟩ := tups_q I b fun v hv => hr v (List.mem_cons_of_mem _ hv)
      exact ⟨f :: fs, .cons hf hfs⟩
/-- what a sort of places tells -/
theorem srt_q {vs : List Value} {ps : List (Str × List Nat)} {arr : Array Keyed} (I : Inv X pins σ H s) (h : P2 (PlQ H) (vs.map backV) ps) (hr : ∀ u ∈ vs, ∃ a, u = Value.ref a)
    (hp : arr.Perm (pairsOf vs)) (hs : SortedToK (G.tupKindC s.heap sh0) arr (pairsOf vs).size) :
    ∃ qs, qs.Perm ps ∧ qs.Pairwise leQ ∧ P2 (PlQ H) ((arr.map (·.2)).toList.map backV) qs ∧ (∀ u ∈ (arr.map (·.2)).toList, ∃ a, u = Value.ref a) ∧ (arr.map (·.2)).toList.length = vs.length := by
  have pl : arr.toList.Perm (vs.zip vs) := by
    have e := Array.perm_iff_toList_perm.mp hp
    rwa [pairsOf_toList] at e
  have po : (arr.map (·.2)).toList.Perm vs := by
    rw [Array.toList_map]
    have z := pl.map Prod.snd
    rwa [List.map_snd_zip (Nat.le_refl _)] at z
  have hr2 : ∀ u ∈ (arr.map (·.2)).toList, ∃ a, u = Value.ref a := fun u hu => hr u (po.mem_iff.mp hu)
  obtain ⟨qs, q1, q2⟩ := P2.perm (po.symm.map backV) h
  refine ⟨qs, q1.symm, ?_, q2, hr2, po.length_eq⟩
  have hlen : qs.length = vs.length := by
    have := q2.len
    rw [List.length_map, po.length_eq] at this
    exact this.symm
  have key : ∀ (i : Nat) (q : Str × List Nat), qs[i]? = some q → KK (G.tupKindC s.heap sh0) arr i = plO q.1 q.2 := fun i q hq => by
    obtain ⟨v, hv, tv⟩ := q2.get hq
    rw [List.getElem?_map, Array.toList_map, List.getElem?_map, Array.getElem?_toList] at hv
    cases hk : arr[i]? with
    | none => rw [hk] at hv; cases hv
    | some kd =>
      rw [hk] at hv
      cases hv
      have hm : kd ∈ arr.toList := List.mem_of_getElem? (by rw [Array.getElem?_toList]; exact hk)
      obtain ⟨e1, e2⟩ := mem_zip_self (pl.mem_iff.mp hm)
      have tv : PlT q.1 H (backV kd.2) q.2 := tv
      have := (key_pl I tv (by rw [← e1]; exact hr _ e2)).1
      unfold KK
      rw [hk]
      show (G.tupKeyC s.heap sh0 kd.1).getD _ = _
      rw [e1, this]; rfl
  rw [List.pairwise_iff_getElem]
  intro i j hi hj hij
  have := hs i j (Nat.le_of_lt hij) (by rw [pairsOf_size]; omega)
  rw [key i _ (List.getElem?_eq_getElem hi), key j _ (List.getElem?_eq_getElem hj)] at this
  exact this
end
section
variable {X : Cx}
/-- sorted(a list of places) -/
def rSortQ (K : PySem.W.Frag) : List V → Hp → VK → Prop := fun vs H Q => ∃ (a : Addr) (us : List V) (ps : List (Str × List Nat)), vs = [V.ref a] ∧ SqL K H a us ∧ P2 (PlQ H) us ps ∧
  ∀ (ys : List V) (qs : List (Str × List Nat)) (p : Addr), qs.Perm ps → qs.Pairwise leQ → P2 (PlQ H) ys qs → H p = none → Q (.ref p) (upd H p (.lst ys))
theorem cr_sortQ : CallR X (.builtin "sorted") (rSortQ X.K) := by
  intro pins s σ H vs us Q I r h
  obtain ⟨a, xs, ps, rfl, hs, ht, q⟩ := h
  obtain ⟨its, rv, hl, hz⟩ := I.list hs
  obtain ⟨u, rfl, ru⟩ := vals1 r
  obtain rfl : u = Value.ref a := ru
  have h2 := ht
  obtain ⟨e1, e2⟩ := refs_back rv fun x m => by
    obtain ⟨p, _, tp⟩ := h2.memL m
    obtain ⟨t, e, _⟩ := tp
    exact ⟨t, e⟩
  rw [e1] at h2
  obtain ⟨fs, hfs⟩ := tups_q I h2 e2
  refine G.sorted_tups (shape := sh0) (fs := fs) hl.isList hfs (fun v hv => ?_) (by rw [← rv.length]; exact hz) fun st' hp hso _ => ?_
  · obtain ⟨p, _, tp⟩ := h2.memL (List.mem_map_of_mem (f := backV) hv)
    exact ⟨_, (key_pl I tp (e2 v hv)).1⟩
  · obtain ⟨qs, q1, q3, q4, q5, q6⟩ := srt_q I h2 e2 hp hso
    obtain ⟨ep, he'⟩ := sortedAll_at s.heap its ((arrOf st').map (·.2))
    have hlen : (((arrOf st').map (·.2)).toList.map backV).length ≤ sizeLine := by
      rw [List.length_map, q6, ← rv.length]; exact hz
    refine ⟨.ref _, upd H (s.heap.objs.size + 1) (.lst (((arrOf st').map (·.2)).toList.map backV)), I.laid (t' := s.toks) (fun _ _ z => sortedAll_old z) (Nat.le_succ _) ⟨hlen, ((arrOf st').map (·.2)).toList, ep, vals_back q5, ?_⟩, rfl,
      q _ qs _ q1 q3 q4 (I.hok.fresh (Nat.le_succ _))⟩
    rw [Array.toArray_toList]; exact he'
/-- the keys of a dict of places -/
def KeysQ (kvs : List (List L2.Key × V)) (ps : List (Str × List Nat)) : Prop := kvs.map (·.1) = ps.map (fun q : Str × List Nat => plK q.1 q.2)
theorem p2_keysQ {H : Hp} : ∀ {kvs : List (List L2.Key × V)} {ks : List (List L2.Key × Addr × Value)} {ps : List (Str × List Nat)}, L2.KT H kvs ks → KeysQ kvs ps → P2 (PlQ H) ((ks.map fun x => Value.ref x.2.1).map backV) ps
  | [], _, ps, r, e => by
    cases r
    cases ps with
    | nil => exact .nil
    | cons _ _ => cases e
  | kv :: kvs, _, ps, r, e => by
    cases r with
    | cons h t =>
      cases ps with
      | nil => cases e
      | cons p ps =>
        unfold KeysQ at e
        rw [List.map_cons, List.map_cons] at e
        obtain ⟨e1, e2⟩ := List.cons.inj e
        refine .cons ?_ (p2_keysQ t e2)
        have h2 := h.2.1
        rw [e1, plK_v] at h2
        exact ⟨_, rfl, h2⟩
/-- sorted(a dict of places) -/
def rSortDQ : List V → Hp → VK → Prop := fun vs H Q => ∃ (a : Addr) (kvs : List (List L2.Key × V)) (ps : List (Str × List Nat)), vs = [V.ref a] ∧ H a = some (.dT kvs) ∧ KeysQ kvs ps ∧
  ∀ (ys : List V) (qs : List (Str × List Nat)) (p : Addr), qs.Perm ps → qs.Pairwise leQ → P2 (PlQ H) ys qs → H p = none → Q (.ref p) (upd H p (.lst ys))
theorem cr_sortDQ (hcalm : X.calm = true) : CallR X (.builtin "sorted") rSortDQ := by
  intro pins s σ H vs us Q I r h
  obtain ⟨d, kvs, ps, rfl, hd, hk, q⟩ := h
  obtain ⟨u, rfl, ru⟩ := vals1 r
  obtain rfl : u = Value.ref d := ru
  obtain ⟨z, hs, ks, pr, o, es, ep, ho, hx, hdt, he, hn⟩ := (show ObjOk X.prog X.w H s.heap d (.dT kvs) from I.hok d _ hd)
  have l1 : es.size = ks.length := size_of_entries he
  have l2 : kvs.length = ks.length := Paired.length pr
  refine Calls.call_function_entry kind_sorted plain_sorted entry_sorted (args_sorted1 _) ?_
  unfold Builtin.«sorted»
  refine wpAny_bind (m := checkCount "sorted" 1 1 _) (wpAny_pure ?_)
  refine wpAny_bind (PySem.W.kdu_collect (A := X.A.in1) (kdl_raw hs hx hdt) (I.ok.hd hcalm) ho (by omega) fun h' tk acc kp it => ?_)
  have ea : acc.toList = ks.map fun x => Value.ref x.2.1 := by
    have hl : acc.toList.length = ks.length := by rw [Array.length_toList, it.1]; exact l1
    refine List.ext_getElem? fun j => ?_
    rw [List.getElem?_map]
    cases hj : acc.toList[j]? with
    | none =>
      have h1 := List.getElem?_eq_none_iff.mp hj
      rw [List.getElem?_eq_none (show ks.length ≤ j by omega)]; rfl
    | some v =>
      obtain ⟨en, hen, hv⟩ := it.2 j v (by rw [← Array.getElem?_toList]; exact hj)
      have qe := entry_at he j
      rw [hen] at qe
      cases hb : ks[j]? with
      | none => rw [hb] at qe; cases qe
      | some b =>
        rw [hb] at qe
        have e2 := Option.some.inj qe
        rw [hv, e2]; rfl
  have h2 : P2 (PlQ H) (acc.toList.map backV) ps := by rw [ea]; exact p2_keysQ pr hk
  have e2 : ∀ u ∈ acc.toList, ∃ a, u = Value.ref a := fun u hu => by
    rw [ea] at hu
    obtain ⟨x, _, e⟩ := List.mem_map.mp hu
    exact ⟨_, e.symm⟩
  have hal : acc.toList.length ≤ sizeLine := by rw [ea, List.length_map]; omega
  have I1 : Inv X pins σ H { s with heap := h', toks := tk } := I.kept kp
  have I2 : Inv X pins σ H { s with heap := h'.push (seqObj "list" acc.toList.toArray 0), toks := tk } := I1.kept (t' := tk) fun b u e => Heap.get?_push_of_some _ e
  refine wpAny_bind (wpAny_newList ?_ hal)
  have hoL : (h'.push (seqObj "list" acc.toList.toArray 0)).get? h'.objs.size = some (seqObj "list" acc.toList.toArray 0) := Heap.get?_push_size _ rfl
  show wpAny _ _ _ _ _ { s with heap := h'.push (seqObj "list" acc.toList.toArray 0), toks := tk }
  obtain ⟨fs, hfs⟩ := tups_q I2 h2 e2
  refine wpAny_bind (wpAny_holding (wpAny_call_entry slot_list_sort ⟨_, hoL, rfl⟩ entry_list_sort
    (G.list_sort_tups (s := { s with heap := h'.push (seqObj "list" acc.toList.toArray 0), toks := tk }) (shape := sh0) (fs := fs) hoL hfs (fun v hv => ?_) hal fun st' hp hso _ => ⟨_, rfl, ?_⟩) (args_list_sort _)))
  · obtain ⟨p, _, tp⟩ := h2.memL (List.mem_map_of_mem (f := backV) hv)
    exact ⟨_, (key_pl I2 tp (e2 v hv)).1⟩
  · obtain ⟨qs, q1, q3, q4, q5, q6⟩ := srt_q I2 h2 e2 hp hso
    obtain ⟨e', he'⟩ := sortedHeap_at (vs := acc.toList) (out := (arrOf st').map (·.2)) hoL
    have hlen : (((arrOf st').map (·.2)).toList.map backV).length ≤ sizeLine := by
      rw [List.length_map, q6]; exact hal
    refine wpAny_pure ⟨_, rfl, .ref h'.objs.size, upd H h'.objs.size (.lst (((arrOf st').map (·.2)).toList.map backV)), I1.laid (t' := tk) (fun b u e => ?_) (Nat.le_refl _)
      (show ObjOk X.prog X.w _ _ _ (.lst (((arrOf st').map (·.2)).toList.map backV)) from ⟨hlen, ((arrOf st').map (·.2)).toList, e', vals_back q5, by rw [Array.toArray_toList]; exact he'⟩), rfl, q _ qs _ q1 q3 q4 (I1.hok.fresh (Nat.le_refl _))⟩
    have hb : b < h'.objs.size := Heap.lt_size e
    rw [sortedHeap_old (Nat.ne_of_lt hb) (by rw [size_push']; exact Nat.lt_succ_of_lt hb)]
    exact Heap.get?_push_of_some _ e
end
end Kk

namespace Kk
open PySem PySem.Spec PyProof.Rows L2
/-! d.get(k, x) of a dict of the written part; a statement that is never reached -/
def tKGet2 (K : PySem.W.Frag) (w : World) (td ty tx : TE) : TE := fun σ H Q => td σ H fun x H1 => ∃ a es n, x = .ref a ∧ KDict K w a es n ∧ ty σ H1 fun y H2 => tx σ H2 fun z H3 => ∃ (k : Str) (o : Option Value) (v : V), y = .str k ∧ PySem.W.nsIn K a k = some o ∧
  (∀ u, o = some u → RelV v u) ∧ (o = none → v = z) ∧ Q v H3
section
variable {X : Cx} {o e f : Expr} {apos cpos : Pos} {td ty tx : TE}
theorem pe_kget2 (ho : PE X o td) (he : PE X e ty) (hf : PE X f tx) (m : M2 X o "get" apos e f cpos) : PE X (.Call (.Attribute o "get" apos) [e, f] [] cpos) (tKGet2 X.K X.w td ty tx) := by
  refine ⟨fun pins s σ H Q I h => ?_⟩
  refine wpAny_Call_method m.base m.few m.line PySem.F.plainAttrs_dict PySem.F.slot_dict_get PySem.F.type_dict_get (thn (ho.run pins s σ H _ I h) fun u s1 ⟨x, H1, I1, rx, a, es, n, ex, D, q1⟩ => ?_)
  subst ex
  obtain rfl : u = Value.ref a := rx
  have hm1 := PySem.W.mapOf_K (prog := X.prog) (w := X.w) I1.kIn D.at_ D.lit
  refine ⟨hm1.typeIs, fun b q => ?_, ?_⟩
  · cases q
    exact ⟨_, I1.kIn _ _ D.at_, rfl⟩
  rw [m.trees]
  refine Calls.callWith_builtin rfl (Calls.evalArgs_plain (Calls.spliced_cons (thn (he.run pins s1 σ H1 _ I1 q1) fun iv s2 ⟨y, H2, I2, ry, q2⟩ =>
    Calls.spliced_cons (thn (hf.run pins s2 σ H2 _ I2 q2) fun fv s3 ⟨z, H3, I3, rz, k, ov, v, ey, hn, h1, h2, q3⟩ => Calls.spliced_nil ?_))))
  subst ey
  obtain ⟨t, rfl⟩ := (show ∃ t, iv = Value.str k t from ry)
  have hm := PySem.W.mapOf_K (prog := X.prog) (w := X.w) I3.kIn D.at_ D.lit
  refine call_meetsIn PySem.F.slot_dict_get hm.typeIs PySem.F.entry_dict_get (PySem.F.args_dict_get_3 _ _ _) (meets_dict_get_default (PySem.strKind X.prog X.w) a (strKind_is X.prog X.w k t) D.low fv) ⟨_, hm, ?_⟩
  refine ⟨v, H3, I3.tok _, ?_, q3⟩
  show RelV v ((findBy Value.isStrOf es k).getD fv)
  rw [PySem.W.find_K D.at_ hn]
  cases ov with
  | none => rw [h2 rfl]; exact rz
  | some u => exact h1 u rfl
end
theorem ps_nv {X : Cx} {st : Stmt} : PS X st (fun _ _ _ => False) := ⟨fun _ _ _ _ _ _ q => q.elim⟩
theorem PS.by {X : Cx} {st : Stmt} {t t' : TS} (h : PS X st t) (imp : ∀ D σ H, t' D σ H → t D σ H) : PS X st t' := ⟨fun pins s σ H D I q => h.run pins s σ H D I (imp D σ H q)⟩
theorem PE.by {X : Cx} {e : Expr} {t t' : TE} (h : PE X e t) (imp : ∀ σ H Q, t' σ H Q → t σ H Q) : PE X e t' := ⟨fun pins s σ H Q I q => h.run pins s σ H Q I (imp σ H Q q)⟩
end Kk

set_option maxHeartbeats 4000000
namespace Kk
open PySem PySem.Spec PyProof.Rows L2
/-! sets of texts -/
def kS (e : Int × Value) : Str := match e.2 with | .str x _ => x | _ => Str.empty
def GS (w : World) (e : Int × Value) : Prop := ∃ x tk, e.2 = Value.str x tk ∧ e.1 = hashStr w x
/-- the set at a: the texts of L -/
def SR (w : World) (h : Heap) (a : Addr) (L : List Str) (n : Nat) : Prop :=
  ∃ o es ep t, h.get? a = some o ∧ o.ExactSet ∧ o.data = .set es ep t ∧ (∀ e ∈ es.toList, GS w e) ∧ (es.toList.map kS).Nodup ∧ (∀ k, k ∈ L ↔ k ∈ es.toList.map kS) ∧
    es.size < scanBound ∧ t.fits es.size = true ∧ es.size = n ∧ Ris t.place.toList ∧ (w.params.followText "set-order" = true ∨ t.led = true)
theorem SR.at {w : World} {h h' : Heap} {a : Addr} {L : List Str} {n : Nat} (R : SR w h a L n) (k : ∀ o, h.get? a = some o → h'.get? a = some o) : SR w h' a L n := by
  obtain ⟨o, es, ep, t, ho, rest⟩ := R
  exact ⟨o, es, ep, t, k o ho, rest⟩
theorem sub_len : ∀ (l B : List Str), l.Nodup → (∀ x ∈ l, x ∈ B) → l.length ≤ B.length
  | [], _, _, _ => Nat.zero_le _
  | x :: l, B, nd, h => by
    obtain ⟨h1, h2⟩ := List.nodup_cons.mp nd
    have hx := h x (List.mem_cons_self ..)
    have ih := sub_len l (B.erase x) h2 fun y hy => by
      have ne : y ≠ x := fun z => h1 (z ▸ hy)
      exact (List.mem_erase_of_ne ne).mpr (h y (List.mem_cons_of_mem _ hy))
    rw [List.length_erase_of_mem hx] at ih
    have := List.length_pos_of_mem hx
    rw [List.length_cons]; omega
section
variable {P : Program} {w : World} {A : Around} {E : Value → Shared → Prop} {s : Shared} {a : Addr} {L : List Str} {n : Nat}
theorem gs_is {e : Int × Value} (g : GS w e) (k : Str) : (PySem.strKind P w).is k e.2 = true ↔ kS e = k := by
  obtain ⟨x, tk, h1, _⟩ := g
  have e1 : kS e = x := by unfold kS; rw [h1]
  rw [e1, h1]
  constructor
  · intro h
    obtain ⟨t, q⟩ := Value.isStrOf_shape (x := k) (v := .str x tk) h
    cases q; rfl
  · intro h; subst h; exact strKind_is P w x tk
theorem gs_elems {l : List (Int × Value)} (g : ∀ e ∈ l, GS w e) : ElemsOf (PySem.strKind P w) l := fun e he => by
  obtain ⟨x, tk, h1, h2⟩ := g e he
  exact ⟨⟨x, by rw [h1]; exact strKind_is P w x tk, h2⟩, by rw [h1]; rfl⟩
theorem gs_mem {l : List (Int × Value)} (g : ∀ e ∈ l, GS w e) (k : Str) : k ∈ l.map kS ↔ ∃ e ∈ l, (PySem.strKind P w).is k e.2 = true := by
  constructor
  · intro h
    obtain ⟨e, he, q⟩ := List.mem_map.mp h
    exact ⟨e, he, (gs_is (g e he) k).mpr q⟩
  · rintro ⟨e, he, q⟩
    exact List.mem_map.mpr ⟨e, he, (gs_is (g e he) k).mp q⟩
theorem sr_tail {gw : Bool → Sem Unit} (hgw : ∀ (b : Bool) (z : Shared) (Q' : Unit → Shared → Prop), Q' () z → wpAny (model P w) A (gw b) Q' E z)
    {o : Obj} {es : Array (Int × Value)} {ep : Nat} {t : SetTable} (ho : s.heap.get? a = some o) (hex : o.ExactSet) (hd : o.data = .set es ep t)
    {fs : Array (Int × Value)} {u : SetTable} {L' : List Str} (gf : ∀ e ∈ fs.toList, GS w e) (nf : (fs.toList.map kS).Nodup) (mf : ∀ k, k ∈ L' ↔ k ∈ fs.toList.map kS)
    (bf : fs.size < scanBound) (ff : u.fits fs.size = true) (rf : Ris u.place.toList) (lf : w.params.followText "set-order" = true ∨ u.led = true) {was : Bool} {R : Option Bool → Shared → Prop}
    (fin : ∀ h', Heap.SameBut a s.heap h' → SR w h' a L' fs.size → R (some true) { s with heap := h' }) :
    wpAny (model P w) A (do
        storeSet a fs u
        if (!was && u.tooFull) = true then do
            gw (relayAll u fs (SetTable.grown fs.size)).2.2
            storeSet a (relayAll u fs (SetTable.grown fs.size)).1 (relayAll u fs (SetTable.grown fs.size)).2.1
            pure (some true)
          else pure (some true)) R E s := by
  refine wpAny_bind (wpAny_storeSet_of ho hd ?_ (fits_of_scanBound bf))
  have at1 := store_at (es' := fs) (t' := u) ho hd
  have same1 := Heap.SameBut.update s.heap a (Obj.putSet fs u)
  split
  · have pm := relayAll_perm u fs (SetTable.grown fs.size)
    have f3 := relayAll_fits u fs (SetTable.grown fs.size)
    have r3 := relayAll_ris u fs (SetTable.grown fs.size)
    have l3 := relayAll_led u fs (SetTable.grown fs.size)
    generalize relayAll u fs (SetTable.grown fs.size) = zz at pm f3 r3 l3 ⊢
    obtain ⟨gs, v, gave⟩ := zz
    dsimp only at pm f3 r3 l3 ⊢
    have sz : gs.size = fs.size := by rw [← Array.length_toList, pm.length_eq, Array.length_toList]
    have b2 : gs.size < scanBound := by rw [sz]; exact bf
    refine wpAny_bind (hgw _ _ _ ?_)
    refine wpAny_bind (wpAny_storeSet_of at1 rfl ?_ (fits_of_scanBound b2))
    have at2 := store_at (es' := gs) (t' := v) at1 rfl
    refine wpAny_pure (fin _ (same1.trans (Heap.SameBut.update _ a _)) ?_)
    exact ⟨_, gs, _, v, at2, hex, rfl, fun e he => gf e (pm.mem_iff.mp he), (pm.map kS).nodup_iff.mpr nf, fun k => (mf k).trans (pm.map kS).mem_iff.symm, b2, f3, sz, r3, lf.imp id fun z => by rw [l3]; exact z⟩
  · exact wpAny_pure (fin _ same1 ⟨_, fs, _, u, at1, hex, rfl, gf, nf, mf, bf, ff, rfl, rf, lf⟩)
theorem sr_add {k : Str} {tk : Tok} {Q : Bool → Shared → Prop} (R : SR w s.heap a L n) (room : n + 1 < scanBound)
    (fin : ∀ (b : Bool) (m : Nat) h', Heap.SameBut a s.heap h' → SR w h' a (L ++ [k]) m → Q b { s with heap := h' }) :
    wpAny (model P w) A (setAddHashed a (.str k tk) ((PySem.strKind P w).hash k)) Q E s := by
  obtain ⟨o, es, ep, t, ho, hex, hd, g, nd, hm, hb, hf, hn, hr, hl⟩ := R
  have isk : (PySem.strKind P w).is k (.str k tk) = true := strKind_is P w k tk
  have scn : (Value.str k tk).scannable = true := rfl
  have els : ElemsOf (PySem.strKind P w) es.toList := gs_elems g
  unfold setAddHashed setAddHashedIn
  refine wpAny_holding (wpAny_bind (wpAny_setState_of ho hd hf ?_))
  dsimp only
  rw [byScan_of scn hb els]
  simp only [↓reduceIte]
  unfold setAddByScan
  refine wpAny_bind ?_
  refine wpAny_bind (wpAny_rule ?_)
  refine wpAny_bind (wpAny_setScan_of isk ho hd hf els ?_)
  cases look : List.findIdx? (fun e => (PySem.strKind P w).is k e.2) es.toList with
  | some j =>
    dsimp only
    obtain ⟨hj, pj, _⟩ := List.findIdx?_eq_some_iff_getElem.mp look
    have inS : k ∈ es.toList.map kS := (gs_mem (P := P) (w := w) g k).2 ⟨es.toList[j], List.getElem_mem hj, pj⟩
    refine wpAny_pure (wpAny_pure ?_)
    refine fin _ n s.heap (Heap.SameBut.refl a s.heap) ⟨o, es, ep, t, ho, hex, hd, g, nd, fun i => ?_, hb, hf, hn, hr, hl⟩
    rw [List.mem_append, hm i, List.mem_singleton]
    exact ⟨fun z => z.elim id fun e => e ▸ inS, .inl⟩
  | none =>
    dsimp only
    have new : k ∉ es.toList.map kS := fun z => by
      obtain ⟨e, he, q⟩ := (gs_mem (P := P) (w := w) g k).1 z
      have c := List.findIdx?_eq_none_iff.mp look e he
      rw [q] at c; cases c
    have gave : ∀ (b : Bool) {z : Shared} {Q' : Unit → Shared → Prop}, Q' () z → wpAny (model P w) A (match b with | true => rule "set.scan.the-table-gave-way" | false => pure ()) Q' E z :=
      fun b z Q' q => by cases b <;> first | exact wpAny_pure q | exact wpAny_rule q
    have pm := layNew_perm t es ((PySem.strKind P w).hash k) (.str k tk)
    have f1 := layNew_fits t es ((PySem.strKind P w).hash k) (.str k tk)
    have r1 := layNew_ris t es ((PySem.strKind P w).hash k) (.str k tk) hr
    have l1 := layNew_led t es ((PySem.strKind P w).hash k) (.str k tk)
    generalize layNew t es ((PySem.strKind P w).hash k) (.str k tk) = zz at pm f1 r1 l1 ⊢
    obtain ⟨fs, u, was, gv⟩ := zz
    dsimp only at pm f1 r1 l1 ⊢
    rw [Array.toList_push] at pm
    have pc : fs.toList.Perm (((PySem.strKind P w).hash k, Value.str k tk) :: es.toList) := pm.trans (List.perm_append_singleton _ _)
    have pk : (fs.toList.map kS).Perm (k :: es.toList.map kS) := pc.map kS
    have gf : ∀ e ∈ fs.toList, GS w e := fun e he => by
      rcases List.mem_cons.mp (pc.mem_iff.mp he) with z | z
      · rw [z]; exact ⟨k, tk, rfl, rfl⟩
      · exact g e z
    have nf : (fs.toList.map kS).Nodup := pk.nodup_iff.mpr (List.nodup_cons.mpr ⟨new, nd⟩)
    have mf : ∀ i, i ∈ L ++ [k] ↔ i ∈ fs.toList.map kS := fun i => by
      rw [List.mem_append, hm i, List.mem_singleton, pk.mem_iff, List.mem_cons]
      exact Or.comm
    have sz : fs.size = n + 1 := by rw [← Array.length_toList, pc.length_eq, List.length_cons, Array.length_toList, hn]
    have b1 : fs.size < scanBound := by rw [sz]; exact room
    have led : w.params.followText "set-order" = true ∨ u.led = true := hl.imp id fun z => by rw [l1]; exact z
    refine wpAny_bind (gave _ ?_)
    split
    · refine wpAny_bind ?_
      rw [hashByValue_scannable 8 scn]
      refine wpAny_pure ?_
      refine sr_tail ?_ ho hex hd gf nf mf b1 ?_ ?_ ?_ ?_
      · intro b z Q' q; cases b <;> first | exact wpAny_pure q | exact wpAny_rule q
      · first | (split <;> first | exact f1 | exact SetTable.fits_plain_off f1) | exact f1
      · first | (split <;> exact r1) | exact r1
      · first | (split <;> exact led) | exact led
      · intro h' sb r; dsimp only; exact wpAny_pure (fin _ _ h' sb r)
    · refine wpAny_bind (wpAny_pure ?_)
      simp only [↓reduceIte]
      refine sr_tail ?_ ho hex hd gf nf mf b1 f1 r1 led ?_
      · intro b z Q' q; cases b <;> first | exact wpAny_pure q | exact wpAny_rule q
      · intro h' sb r; dsimp only; exact wpAny_pure (fin _ _ h' sb r)
theorem sr_room {B : List Str} (R : SR w s.heap a L n) (hB : ∀ x ∈ L, x ∈ B) : n ≤ B.length := by
  obtain ⟨o, es, ep, t, ho, hex, hd, g, nd, hm, hb, hf, hn, hr, hl⟩ := R
  have := sub_len _ B nd fun x hx => hB x ((hm x).2 hx)
  rw [List.length_map, Array.length_toList, hn] at this
  exact this
end
section
variable {prog : Program} {w : World} {A : Around} {R : Result → Shared → Prop} {I : Addr} {fp wr : List Addr} {G : Array GenState → Array GenState → Prop} {m : Nat} {P : Nat → Value → Prop} {St : Nat → Shared → Prop}
theorem sr_loop (W : WalksS prog w A.in1 I fp wr G m P St) (S : Addr) (nS : S ∉ fp) (xs : List Str) (sz : xs.length = m) {B : List Str} (hB : ∀ x ∈ xs, x ∈ B) (hB64 : B.length < 64)
    (val : ∀ i v, P i v → ∃ x t, xs[i]? = some x ∧ v = .str x t) :
    ∀ (k i n : Nat) (s : Shared), m - i = k → i ≤ m → St i s → SR w s.heap S (xs.take i) n →
      (∀ s' n', Moved (S :: wr) G s s' → SR w s'.heap S xs n' → R (.ok (.ret .none)) s') →
      codeAny (model prog w) A (.builtin "set.update.loop" ⟨[.ref S, .ref I], []⟩) R s := by
  have nSw : S ∉ wr := fun h => nS (W.sub _ h)
  have sub : ∀ b ∈ wr, b ∈ S :: wr := fun b hb => List.mem_cons_of_mem _ hb
  intro k
  induction k with
  | zero =>
    intro i n s hk hi st hS hR
    obtain rfl : i = m := by omega
    refine codeAny_builtin PyProof.Rows.F.entry_set_update_loop ?_
    rw [Around.under_plainId PyProof.Rows.F.plain_set_update_loop _]
    show wpAny _ A.in1 (pyNext (.ref I) >>= _) _ _ s
    refine wpAny_bind (W.done s _ _ st fun s' hm => ?_)
    show wpAny _ A.in1 (ret Value.none) _ _ s'
    refine wpAny_pure (hR s' n (hm.mono sub) ?_)
    rw [← sz, List.take_length] at hS
    exact hS.at fun o ho => hm.heap S _ nSw ho
  | succ k ih =>
    intro i n s hk hi st hS hR
    have lt : i < m := by omega
    refine codeAny_builtin PyProof.Rows.F.entry_set_update_loop ?_
    rw [Around.under_plainId PyProof.Rows.F.plain_set_update_loop _]
    show wpAny _ A.in1 (pyNext (.ref I) >>= _) _ _ s
    refine wpAny_bind (W.item i s _ _ lt st fun v s' hP st' hm => ?_)
    obtain ⟨x, t, hx, rfl⟩ := val i v hP
    have hS' : SR w s'.heap S (xs.take i) n := hS.at fun o ho => hm.heap S _ nSw ho
    show wpAny _ A.in1 (holding [Value.str x t] (setAdd S (.str x t)) >>= _) _ _ s'
    refine wpAny_bind (wpAny_holding ?_)
    unfold setAdd
    refine wpAny_holding ?_
    refine wpAny_bind ((PySem.strKind prog w).pyHash (k := x) (strKind_is _ _ _ _) ?_)
    have room : n + 1 < scanBound := by
      have := sr_room hS' (B := B) fun y hy => hB y (List.mem_of_mem_take hy)
      unfold scanBound; omega
    refine sr_add (s := { s' with toks := s'.toks + 1 }) hS' room fun b n2 h' sb r => ?_
    have tk : xs.take (i + 1) = xs.take i ++ [x] := by rw [List.take_add_one, hx]; rfl
    rw [← tk] at r
    refine wpAny_pure ⟨plainId_quiet PyProof.Rows.F.plain_set_update_loop _, ih (i + 1) n2 _ (by omega) lt (W.frame _ s' _ _ st' (Nat.le_succ _) fun b hb o e => ?_) r fun s'' n3 hm'' hS'' => ?_⟩
    · rw [sb.2 b (fun z : b = S => nS (by rw [← z]; exact hb))]; exact e
    · refine hR s'' n3 (Moved.trans W.gtrans ((hm.mono sub).then_heap (Nat.le_succ _) fun b o hb e => ?_) hm'') hS''
      rw [sb.2 b (fun z : b = S => hb (by rw [z]; exact List.mem_cons_self))]; exact e
end
end Kk

set_option maxHeartbeats 4000000
namespace Kk
open PySem PySem.Spec PyProof.Rows L2
abbrev newSet (w : World) : Obj := { cls := .type "set", dict := none, data := .set #[] 0 (.fresh 0 0 (!w.params.followText "set-order")) }
theorem sr_fresh {h : Heap} (w : World) : SR w (h.push { cls := .type "set", dict := none, data := .set #[] 0 (.fresh 0 0 (!w.params.followText "set-order")) }) h.objs.size [] 0 :=
  ⟨_, #[], 0, _, Heap.get?_push_size _ rfl, ⟨rfl, rfl, rfl⟩, rfl, (fun e he => by simp at he), (by simp), (fun k => by simp), (by decide), (by rfl), rfl, List.Pairwise.nil, by
    show _ ∨ (!w.params.followText "set-order") = true
    cases w.params.followText "set-order"
    · exact .inr rfl
    · exact .inl rfl⟩
section
variable {P : Program} {w : World} {A : Around} {E : Value → Shared → Prop} {s : Shared} {a : Addr} {L : List Str} {n : Nat}
/-- set(xs), xs a list of texts -/
theorem set_of_strs {l : Addr} {items : Array Value} {xs B : List Str} {Q : Value → Shared → Prop} (hh : A.handled = none) (hl : s.heap.IsList l items) (sz0 : xs.length = items.size)
    (val : ∀ (i : Nat) (v : Value), items[i]? = some v → ∃ x t, xs[i]? = some x ∧ v = .str x t) (hB : ∀ x ∈ xs, x ∈ B) (hB64 : B.length < 64)
    (fin : ∀ (h' : Heap) (tk n : Nat), SR w h' s.heap.objs.size xs n → (∀ b o, s.heap.get? b = some o → h'.get? b = some o) → Q (.ref s.heap.objs.size) { s with heap := h', toks := tk }) :
    wpAny (model P w) A (call (.type "set") [.ref l]) Q E s := by
  obtain ⟨c, tl, mro⟩ := PySem.F.called_set.mro
  have made := PySem.F.called_set.made
  have issub := PySem.F.called_set.sub
  refine wpAny_call (codeAny_of_tree ?_)
  show wpAny _ _ (callAny (.type "set") _) _ _ _
  refine wpAny_pure ⟨Code.quiet_builtin _ (by decide +kernel), codeAny_builtin PySem.F.entry_type_call ?_⟩
  rw [Around.under_plain (weight_type_call_type "set" [.ref l] []) rfl]
  have q1 := PySem.F.called_set.notType
  have q2 := PySem.F.called_set.canCreate
  have q3 := PySem.F.typeCall_set_1 (.ref l)
  repeat (any_goals (first | assumption | wp_step))
  refine codeAny_mono (code_set_led1 (.ref l) (E := E) (Q₁ := fun v z => v = .ref s.heap.objs.size ∧ z = { s with heap := s.heap.push { cls := .type "set", dict := none, data := .set #[] 0 (.fresh 0 0 (!w.params.followText "set-order")) } }) ⟨rfl, rfl⟩) fun r z hr => ?_
  cases r with
  | error e => exact hr
  | ok fl =>
    cases fl with
    | ret v =>
      obtain ⟨rfl, rfl⟩ := hr
      have atS : (s.heap.push (newSet w)).get? s.heap.objs.size = some (newSet w) := Heap.get?_push_size _ rfl
      have isS : Shared.TypeIs { s with heap := s.heap.push (newSet w) } (.ref s.heap.objs.size) "set" := ⟨_, atS, rfl⟩
      have ini := PySem.F.called_set.init.lookup
      have bnd := PySem.F.called_set.init.bind (.ref s.heap.objs.size)
      repeat (any_goals (first | assumption | wp_step))
      refine codeAny_mono (codeAny_call_builtin (R := wants (fun r z2 => r = .none ∧ ∃ h' tk n, z2 = { s with heap := h', toks := tk } ∧ SR w h' s.heap.objs.size xs n ∧ (∀ b o, s.heap.get? b = some o → h'.get? b = some o)) E)
        PySem.F.called_set.init.plain PySem.F.entry_set_init (check_set_init_1 isS ?_)) fun r2 z2 hr2 => ?_
      · obtain ⟨ol, hol, cl, nl, dl⟩ := hl
        obtain ⟨oc, od, odt, osl⟩ := ol
        simp only at cl dl
        subst cl; subst dl
        have hol2 : (s.heap.push (newSet w)).get? l = some { cls := .type "list", dict := od, data := .seq items nl, slots := osl } := Heap.get?_push_of_some _ hol
        have s1 := PySem.F.sub_list_set
        have s2 := PySem.F.sub_list_frozenset
        have s3 : (Value.type "list" == Value.type "dict") = false := by decide
        have isL : (s.heap.push (newSet w)).IsList l items := ⟨_, hol2, rfl, nl, rfl⟩
        unfold Builtin.«set.__init__» noKeywords Builtin.Frozenset.updateFrom
        generalize hold : pyIter = PI
        wp_walk
        subst hold
        refine wpAny_pyIter_list isL ?_
        refine wpAny_bind (wpAny_runValue ?_)
        have lt1 : l < s.heap.objs.size := Heap.lt_size hol
        have hh3 : A.in1.in1.in1.handled = none := by simp [hh]
        have neI : l ≠ (s.heap.push (newSet w)).objs.size := by rw [Heap.size_push]; exact Nat.ne_of_lt (Nat.lt_succ_of_lt lt1)
        have nS : s.heap.objs.size ∉ [(s.heap.push (newSet w)).objs.size, l] := by
          rw [Heap.size_push]; simp only [List.mem_cons, List.mem_singleton, List.not_mem_nil, or_false, not_or]
          exact ⟨Nat.ne_of_lt (Nat.lt_succ_self _), Nat.ne_of_gt lt1⟩
        refine sr_loop ((Walks.list hh3 _ l neI items).toS) s.heap.objs.size nS xs sz0 hB hB64 val (items.size - 0) 0 0 _ (by omega) (Nat.zero_le _)
          ⟨⟨_, Heap.get?_push_size _ rfl, rfl, rfl⟩, (isL.push _)⟩ ?z0 ?zR
        case z0 =>
          have f := sr_fresh (h := s.heap) w
          exact f.at fun o ho => Heap.get?_push_of_some _ ho
        case zR =>
          intro z' n' mv hS'
          obtain ⟨h', g', d', tk', os'⟩ := z'
          have eg : g' = s.gens := mv.gens
          have ed : d' = s.drawn := mv.drawn
          have eo' : os' = s.os := mv.os
          subst eg; subst ed; subst eo'
          show wpAny _ _ _ _ _ _
          refine wpAny_pure ?_
          show wpAny _ _ (ret Value.none) _ _ _
          refine wpAny_pure ⟨rfl, h', tk', n', rfl, hS', fun b o e => ?_⟩
          have lb := Heap.lt_size e
          have n1 : b ≠ s.heap.objs.size := Nat.ne_of_lt lb
          have n2 : b ≠ (s.heap.push (newSet w)).objs.size := by rw [Heap.size_push]; exact Nat.ne_of_lt (Nat.lt_succ_of_lt lb)
          exact mv.heap b o (by simp only [List.mem_cons, List.mem_singleton, List.not_mem_nil, or_false, not_or]; exact ⟨n1, n2⟩) (Heap.get?_push_of_some _ (Heap.get?_push_of_some _ e))
      · cases r2 with
        | error e => exact hr2
        | ok fl2 =>
          cases fl2 with
          | ret r =>
            obtain ⟨rfl, h', tk, n', rfl, hS', kp⟩ := hr2
            repeat (any_goals (first | assumption | wp_step))
            exact fin _ _ _ hS' kp
          | _ => exact hr2.elim
    | _ => exact hr.elim
theorem strs_of_vals : ∀ (l : List Value), (∀ v ∈ l, ∃ x tk, v = Value.str x tk) → StrsAre l (l.map fun v => kS (0, v))
  | [], _ => .nil
  | v :: l, h => by
    obtain ⟨x, tk, rfl⟩ := h v List.mem_cons_self
    exact .cons x tk (strs_of_vals l fun u hu => h u (List.mem_cons_of_mem _ hu))
/-- sorted(set), a set of texts -/
theorem sorted_of_set {B : List Str} {Q : Value → Shared → Prop} (R : SR w s.heap a L n) (hh : A.handled = none) (hB : ∀ x ∈ L, x ∈ B) (hB64 : B.length < 64)
    (fin : ∀ s' p (out : Array Value) (c : Nat) (ys : List Str), (∀ b o, s.heap.get? b = some o → s'.heap.get? b = some o) → s'.gens = s.gens → s'.os = s.os → s.heap.objs.size ≤ p →
      s'.heap.get? p = some (seqObj "list" out c) → StrsAre out.toList ys → sortedS ys = true → ys.Nodup → (∀ k, k ∈ ys ↔ k ∈ L) → ys.length < 64 → Q (.ref p) s') :
    wpAny (model P w) A (call (.builtin "sorted") [.ref a]) Q E s := by
  have n64 : n < 64 := Nat.lt_of_le_of_lt (sr_room R hB) hB64
  obtain ⟨o, es, ep, t, ho, hex, hd, g, nd, hm, hb, hf, hn, hr, hl⟩ := R
  refine Calls.call_function_entry kind_sorted plain_sorted entry_sorted (args_sorted1 _) ?_
  unfold Builtin.«sorted»
  refine wpAny_bind (m := checkCount "sorted" 1 1 _) (wpAny_pure ?_)
  refine wpAny_bind (collect_set (A := A.in1) hh ⟨o, ho, hex.1, hd⟩ hf hb hr hl fun z vs k1 hz g1 o1 pm => ?_)
  have vl : vs.length = n := by rw [pm.length_eq, List.length_map, Array.length_toList]; exact hn
  have SA : StrsAre vs (vs.map fun v => kS (0, v)) := strs_of_vals vs fun v hv => by
    obtain ⟨e, he, q⟩ := List.mem_map.mp (pm.mem_iff.mp hv)
    obtain ⟨x, tk, h1, _⟩ := g e he
    exact ⟨x, tk, by rw [← q]; exact h1⟩
  have pk : (vs.map fun v => kS (0, v)).Perm (es.toList.map kS) := by
    have q := pm.map fun v => kS (0, v)
    rw [List.map_map] at q
    exact q
  refine wpAny_bind (wpAny_newList ?_ (by rw [vl, sizeLine_eq]; omega))
  have oL : (z.heap.push (seqObj "list" vs.toArray 0)).get? z.heap.objs.size = some (seqObj "list" vs.toArray 0) := Heap.get?_push_size _ rfl
  refine wpAny_bind (wpAny_holding (wpAny_call_entry slot_list_sort ⟨_, oL, rfl⟩ entry_list_sort
    (list_sort_treeK strKind_oneLt oL SA.keysOf (fun v₁ v₂ rest e => keyKind_strs (by rw [← e]; exact SA)) (by rw [vl]; exact n64) fun st' hp hs => ⟨_, rfl, ?_⟩) (args_list_sort _)))
  obtain ⟨ys, a1, a2, a3⟩ := sorted_out_str SA hp hs
  obtain ⟨c, hc⟩ := sortedHeap_at (vs := vs) (out := (arrOf st').map (·.2)) oL
  have pn : ys.Perm (es.toList.map kS) := a2.trans pk
  refine wpAny_pure ⟨_, rfl, fin _ z.heap.objs.size _ c ys (fun b u e => ?_) g1 o1 hz hc a1 a3 (pn.nodup_iff.mpr nd) (fun k => by rw [pn.mem_iff, ← hm k]) ?_⟩
  · have q := k1 b u e
    have lt := Heap.lt_size q
    show (sortedHeap (z.heap.push (seqObj "list" vs.toArray 0)) z.heap.objs.size vs _).get? b = some u
    rw [sortedHeap_old (Nat.ne_of_lt lt) (by rw [size_push']; exact Nat.lt_succ_of_lt lt)]
    exact Heap.get?_push_of_some _ q
  · rw [pn.length_eq, List.length_map, Array.length_toList, hn]; exact n64
end
/-- a set of texts, tracked -/
def SetS (w : World) (a : Addr) (L : List Str) : HO := .ext fun h => ∃ n, SR w h a L n
section
variable {X : Cx}
theorem setS_ok {P : Program} {w : World} {H : Hp} {h : Heap} {a : Addr} {L : List Str} {n : Nat} (R : SR w h a L n) : ObjOk P w H h a (SetS w a L) := by
  refine ⟨⟨n, R⟩, ?_, fun h1 h2 ⟨m, R1⟩ k => ⟨m, R1.at k⟩⟩
  obtain ⟨o, es, ep, t, ho, _⟩ := R
  exact ⟨o, ho⟩
def rSetS (K : PySem.W.Frag) (w : World) : List V → Hp → VK → Prop := fun vs H Q => ∃ (l : Addr) (xs B : List Str), vs = [.ref l] ∧ SqL K H l (xs.map V.str) ∧ (∀ x ∈ xs, x ∈ B) ∧ B.length < 64 ∧ ∀ p, H p = none → Q (.ref p) (upd H p (SetS w p xs))
theorem call_setS (hc : X.calm = true) : CallR X (.type "set") (rSetS X.K X.w) := by
  intro pins s σ H vs us Q I r h
  obtain ⟨l, xs, B, rfl, hl, hB, hB64, q⟩ := h
  rw [Vals.ref1 r]
  obtain ⟨its, rv, pl, hz⟩ := I.list hl
  have fr : H s.heap.objs.size = none := I.hok.fresh (Nat.le_refl _)
  have hlen : xs.length = its.toArray.size := by
    have := rv.length
    rw [List.length_map] at this
    simpa using this
  refine set_of_strs (P := X.prog) (w := X.w) (I.ok.hd hc) pl.isList hlen (fun i v hv => ?_) hB hB64 fun h' tk n R kp => ?_
  · have hv2 : its[i]? = some v := by simpa using hv
    have hi : i < xs.length := by rw [hlen]; simpa using (List.getElem?_eq_some_iff.mp hv2).1
    have hx : (xs.map V.str)[i]? = some (.str xs[i]) := by rw [List.getElem?_map, List.getElem?_eq_getElem hi]; rfl
    obtain ⟨u, hu, ru⟩ := rv.get hx
    rw [hv2] at hu; cases hu
    obtain ⟨t, e⟩ := (show ∃ t, v = Value.str xs[i] t from ru)
    exact ⟨xs[i], t, List.getElem?_eq_getElem hi, e⟩
  · exact ⟨.ref s.heap.objs.size, upd H s.heap.objs.size (SetS X.w s.heap.objs.size xs), I.laid (t' := tk) kp (Nat.le_refl _) (setS_ok R), rfl, q _ fr⟩
def rSortSetS (w : World) : List V → Hp → VK → Prop := fun vs H Q => ∃ (a : Addr) (L B : List Str), vs = [.ref a] ∧ H a = some (SetS w a L) ∧ (∀ x ∈ L, x ∈ B) ∧ B.length < 64 ∧
  ∀ (ys : List Str) (p : Addr), sortedS ys = true → ys.Nodup → (∀ k, k ∈ ys ↔ k ∈ L) → H p = none → Q (.ref p) (upd H p (.lst (ys.map V.str)))
theorem call_sortSetS (hc : X.calm = true) : CallR X (.builtin "sorted") (rSortSetS X.w) := by
  intro pins s σ H vs us Q I r h
  obtain ⟨a, L, B, rfl, ha, hB, hB64, q⟩ := h
  obtain ⟨n, R⟩ := (I.hok a _ ha).1
  rw [Vals.ref1 r]
  refine sorted_of_set (P := X.prog) R (I.ok.hd hc) hB hB64 fun s' p out c ys k g o hp hg hS h1 h2 h3 h4 => ?_
  have hlen : (ys.map V.str).length ≤ sizeLine := by rw [List.length_map, sizeLine_eq]; omega
  have fr : H p = none := I.hok.fresh hp
  have J : Inv X pins σ (upd H p (.lst (ys.map V.str))) { s with heap := s'.heap, gens := s'.gens, drawn := s'.drawn, toks := s'.toks } :=
    I.call (ch := []) (Un.laid k hp fr) (I.hok.laid k hp ⟨hlen, out.toList, c, vals_of_strs hS, hg⟩) (by rw [g]; exact I.bare) (fun _ z => nomatch z)
  have e : s' = { s with heap := s'.heap, gens := s'.gens, drawn := s'.drawn, toks := s'.toks } := by
    cases s'; cases s; cases o; rfl
  rw [e]
  exact ⟨.ref p, _, J, rfl, q ys p h1 h2 h3 fr⟩
end
end Kk

set_option maxHeartbeats 4000000
namespace Kk
open PySem PySem.Spec PyProof.Rows L2
section
variable {P : Program} {w : World} {A : Around} {E : Value → Shared → Prop} {s : Shared} {a : Addr} {L : List Str} {n : Nat}
/-- set(xs), xs a tuple of texts -/
theorem set_of_strsT {l : Addr} {items : Array Value} {xs B : List Str} {Q : Value → Shared → Prop} (hh : A.handled = none) (hl : s.heap.IsTuple l items) (sz0 : xs.length = items.size)
    (val : ∀ (i : Nat) (v : Value), items[i]? = some v → ∃ x t, xs[i]? = some x ∧ v = .str x t) (hB : ∀ x ∈ xs, x ∈ B) (hB64 : B.length < 64)
    (fin : ∀ (h' : Heap) (tk n : Nat), SR w h' s.heap.objs.size xs n → (∀ b o, s.heap.get? b = some o → h'.get? b = some o) → Q (.ref s.heap.objs.size) { s with heap := h', toks := tk }) :
    wpAny (model P w) A (call (.type "set") [.ref l]) Q E s := by
  obtain ⟨c, tl, mro⟩ := PySem.F.called_set.mro
  have made := PySem.F.called_set.made
  have issub := PySem.F.called_set.sub
  refine wpAny_call (codeAny_of_tree ?_)
  show wpAny _ _ (callAny (.type "set") _) _ _ _
  refine wpAny_pure ⟨Code.quiet_builtin _ (by decide +kernel), codeAny_builtin PySem.F.entry_type_call ?_⟩
  rw [Around.under_plain (weight_type_call_type "set" [.ref l] []) rfl]
  have q1 := PySem.F.called_set.notType
  have q2 := PySem.F.called_set.canCreate
  have q3 := PySem.F.typeCall_set_1 (.ref l)
  repeat (any_goals (first | assumption | wp_step))
  refine codeAny_mono (code_set_led1 (.ref l) (E := E) (Q₁ := fun v z => v = .ref s.heap.objs.size ∧ z = { s with heap := s.heap.push { cls := .type "set", dict := none, data := .set #[] 0 (.fresh 0 0 (!w.params.followText "set-order")) } }) ⟨rfl, rfl⟩) fun r z hr => ?_
  cases r with
  | error e => exact hr
  | ok fl =>
    cases fl with
    | ret v =>
      obtain ⟨rfl, rfl⟩ := hr
      have atS : (s.heap.push (newSet w)).get? s.heap.objs.size = some (newSet w) := Heap.get?_push_size _ rfl
      have isS : Shared.TypeIs { s with heap := s.heap.push (newSet w) } (.ref s.heap.objs.size) "set" := ⟨_, atS, rfl⟩
      have ini := PySem.F.called_set.init.lookup
      have bnd := PySem.F.called_set.init.bind (.ref s.heap.objs.size)
      repeat (any_goals (first | assumption | wp_step))
      refine codeAny_mono (codeAny_call_builtin (R := wants (fun r z2 => r = .none ∧ ∃ h' tk n, z2 = { s with heap := h', toks := tk } ∧ SR w h' s.heap.objs.size xs n ∧ (∀ b o, s.heap.get? b = some o → h'.get? b = some o)) E)
        PySem.F.called_set.init.plain PySem.F.entry_set_init (check_set_init_1 isS ?_)) fun r2 z2 hr2 => ?_
      · obtain ⟨ol, hol, cl, nl, dl⟩ := hl
        obtain ⟨oc, od, odt, osl⟩ := ol
        simp only at cl dl
        subst cl; subst dl
        have hol2 : (s.heap.push (newSet w)).get? l = some { cls := .type "tuple", dict := od, data := .seq items nl, slots := osl } := Heap.get?_push_of_some _ hol
        have s1 := PySem.F.sub_tuple_set
        have s2 := PySem.F.sub_tuple_frozenset
        have s3 : (Value.type "tuple" == Value.type "dict") = false := by decide
        have isL : (s.heap.push (newSet w)).IsTuple l items := ⟨_, hol2, rfl, nl, rfl⟩
        unfold Builtin.«set.__init__» noKeywords Builtin.Frozenset.updateFrom
        generalize hold : pyIter = PI
        wp_walk
        subst hold
        refine wpAny_pyIter_tuple isL ?_
        refine wpAny_bind (wpAny_runValue ?_)
        have lt1 : l < s.heap.objs.size := Heap.lt_size hol
        have hh3 : A.in1.in1.in1.handled = none := by simp [hh]
        have neI : l ≠ (s.heap.push (newSet w)).objs.size := by rw [Heap.size_push]; exact Nat.ne_of_lt (Nat.lt_succ_of_lt lt1)
        have nS : s.heap.objs.size ∉ [(s.heap.push (newSet w)).objs.size, l] := by
          rw [Heap.size_push]; simp only [List.mem_cons, List.mem_singleton, List.not_mem_nil, or_false, not_or]
          exact ⟨Nat.ne_of_lt (Nat.lt_succ_self _), Nat.ne_of_gt lt1⟩
        refine sr_loop ((Walks.tuple hh3 _ l neI items).toS) s.heap.objs.size nS xs sz0 hB hB64 val (items.size - 0) 0 0 _ (by omega) (Nat.zero_le _)
          ⟨⟨_, Heap.get?_push_size _ rfl, rfl, rfl⟩, (isL.push _)⟩ ?z0 ?zR
        case z0 =>
          have f := sr_fresh (h := s.heap) w
          exact f.at fun o ho => Heap.get?_push_of_some _ ho
        case zR =>
          intro z' n' mv hS'
          obtain ⟨h', g', d', tk', os'⟩ := z'
          have eg : g' = s.gens := mv.gens
          have ed : d' = s.drawn := mv.drawn
          have eo' : os' = s.os := mv.os
          subst eg; subst ed; subst eo'
          show wpAny _ _ _ _ _ _
          refine wpAny_pure ?_
          show wpAny _ _ (ret Value.none) _ _ _
          refine wpAny_pure ⟨rfl, h', tk', n', rfl, hS', fun b o e => ?_⟩
          have lb := Heap.lt_size e
          have n1 : b ≠ s.heap.objs.size := Nat.ne_of_lt lb
          have n2 : b ≠ (s.heap.push (newSet w)).objs.size := by rw [Heap.size_push]; exact Nat.ne_of_lt (Nat.lt_succ_of_lt lb)
          exact mv.heap b o (by simp only [List.mem_cons, List.mem_singleton, List.not_mem_nil, or_false, not_or]; exact ⟨n1, n2⟩) (Heap.get?_push_of_some _ (Heap.get?_push_of_some _ e))
      · cases r2 with
        | error e => exact hr2
        | ok fl2 =>
          cases fl2 with
          | ret r =>
            obtain ⟨rfl, h', tk, n', rfl, hS', kp⟩ := hr2
            repeat (any_goals (first | assumption | wp_step))
            exact fin _ _ _ hS' kp
          | _ => exact hr2.elim
    | _ => exact hr.elim
end
section
variable {X : Cx}
def rSetT (K : PySem.W.Frag) (w : World) : List V → Hp → VK → Prop := fun vs H Q => ∃ (l : Addr) (xs : List Str), vs = [.ref l] ∧ SqT K H l (xs.map V.str) ∧ xs.length < 64 ∧ ∀ p, H p = none → Q (.ref p) (upd H p (SetS w p xs))
theorem call_setT (hc : X.calm = true) : CallR X (.type "set") (rSetT X.K X.w) := by
  intro pins s σ H vs us Q I r h
  obtain ⟨l, xs, rfl, hl, hB64, q⟩ := h
  rw [Vals.ref1 r]
  obtain ⟨its, rv, pl, hz⟩ := I.tuple hl
  have fr : H s.heap.objs.size = none := I.hok.fresh (Nat.le_refl _)
  have hlen : xs.length = its.toArray.size := by
    have := rv.length
    rw [List.length_map] at this
    simpa using this
  refine set_of_strsT (P := X.prog) (w := X.w) (B := xs) (I.ok.hd hc) pl hlen (fun i v hv => ?_) (fun _ h => h) hB64 fun h' tk n R kp => ?_
  · have hv2 : its[i]? = some v := by simpa using hv
    have hi : i < xs.length := by rw [hlen]; simpa using (List.getElem?_eq_some_iff.mp hv2).1
    have hx : (xs.map V.str)[i]? = some (.str xs[i]) := by rw [List.getElem?_map, List.getElem?_eq_getElem hi]; rfl
    obtain ⟨u, hu, ru⟩ := rv.get hx
    rw [hv2] at hu; cases hu
    obtain ⟨t, e⟩ := (show ∃ t, v = Value.str xs[i] t from ru)
    exact ⟨xs[i], t, List.getElem?_eq_getElem hi, e⟩
  · exact ⟨.ref s.heap.objs.size, upd H s.heap.objs.size (SetS X.w s.heap.objs.size xs), I.laid (t' := tk) kp (Nat.le_refl _) (setS_ok R), rfl, q _ fr⟩
/-- as many as are unlike -/
theorem nodup_len {M L : List Str} (nd : M.Nodup) (hm : ∀ k, k ∈ L ↔ k ∈ M) : M.length ≤ L.length ∧ (M.length = L.length ↔ L.Nodup) := by
  have h1 : M.length ≤ L.length := sub_len M L nd fun x hx => (hm x).mpr hx
  refine ⟨h1, fun e => ?_, fun h => Nat.le_antisymm h1 (sub_len L M h fun x hx => (hm x).mp hx)⟩
  clear h1
  induction L generalizing M with
  | nil => exact List.nodup_nil
  | cons x L ih =>
    have hx : x ∈ M := (hm x).mp List.mem_cons_self
    have le : (M.erase x).length = L.length := by
      rw [List.length_erase_of_mem hx, e, List.length_cons]; rfl
    have nx : x ∉ L := fun hxL => by
      have q := sub_len M L nd fun y hy => by
        rcases List.mem_cons.mp ((hm y).mpr hy) with z | z
        · rw [z]; exact hxL
        · exact z
      rw [e, List.length_cons] at q; omega
    refine List.nodup_cons.mpr ⟨nx, ih (nd.erase x) (fun k => ?_) le⟩
    constructor
    · intro hk
      have ne : k ≠ x := fun z => nx (z ▸ hk)
      exact (List.mem_erase_of_ne ne).mpr ((hm k).mp (List.mem_cons_of_mem _ hk))
    · intro hk
      have ne : k ≠ x := fun z => by
        rw [z] at hk
        exact nd.not_mem_erase hk
      rcases List.mem_cons.mp ((hm k).mpr (List.mem_of_mem_erase hk)) with z | z
      · exact absurd z ne
      · exact z
def rLenSetS (w : World) : List V → Hp → VK → Prop := fun vs H Q => ∃ (a : Addr) (L : List Str), vs = [.ref a] ∧ H a = some (SetS w a L) ∧ L.length < 64 ∧ ∀ n : Nat, (n = L.length ↔ L.Nodup) → Q (.int n) H
theorem call_lenSetS : CallR X (.builtin "len") (rLenSetS X.w) := by
  intro pins s σ H vs us Q I r h
  obtain ⟨a, L, rfl, ha, h64, q⟩ := h
  obtain ⟨n, R⟩ := (I.hok a _ ha).1
  rw [Vals.ref1 r]
  obtain ⟨o, es, ep, t, ho, hex, hd, g, nd, hm, hb, hf, hn, hr, hl⟩ := R
  obtain ⟨l1, l2⟩ := nodup_len nd hm
  have el : (es.toList.map kS).length = es.size := by rw [List.length_map, Array.length_toList]
  rw [el] at l1 l2
  refine call_len_set ho hex hd hf (by have : es.size < 64 := Nat.lt_of_le_of_lt l1 h64; omega) ⟨.int es.size, H, I.tok _, ⟨_, rfl⟩, q es.size l2⟩
end
end Kk

namespace Kk
open PySem PySem.Spec PyProof.Rows L2
/-! data whose lists stand nowhere in S: what changes only S leaves it -/
mutual
inductive Da (K : PySem.W.Frag) (S : List Addr) (H : Hp) : V → PyData → Prop
  | non : Da K S H .non .none
  | bl (b : Bool) : Da K S H (.bl b) (.bool b)
  | int (i : Int) : Da K S H (.int i) (.int i)
  | str (x : Str) : Da K S H (.str x) (.str x)
  | lst {a : Addr} {xs : List V} {ds : List PyData} : a ∉ S → SqL K H a xs → DaAll K S H xs ds → Da K S H (.ref a) (.list ds)
  | tup {a : Addr} {xs : List V} {ds : List PyData} : SqT K H a xs → DaAll K S H xs ds → Da K S H (.ref a) (.tuple ds)
inductive DaAll (K : PySem.W.Frag) (S : List Addr) (H : Hp) : List V → List PyData → Prop
  | nil : DaAll K S H [] []
  | cons {v : V} {vs : List V} {d : PyData} {ds : List PyData} : Da K S H v d → DaAll K S H vs ds → DaAll K S H (v :: vs) (d :: ds)
end
section
variable {K : PySem.W.Frag} {S S' : List Addr} {H H' : Hp}
mutual
theorem Da.ex (e : Ex S' H H') (sub : ∀ b ∈ S', b ∈ S) : ∀ {v : V} {d : PyData}, Da K S H v d → Da K S H' v d
  | _, _, .non => .non
  | _, _, .bl b => .bl b
  | _, _, .int i => .int i
  | _, _, .str x => .str x
  | _, _, .lst n h r => .lst n (e.seqL h fun z => n (sub _ z)) (DaAll.ex e sub r)
  | _, _, .tup h r => .tup (e.seqT h) (DaAll.ex e sub r)
theorem DaAll.ex (e : Ex S' H H') (sub : ∀ b ∈ S', b ∈ S) : ∀ {vs : List V} {ds : List PyData}, DaAll K S H vs ds → DaAll K S H' vs ds
  | _, _, .nil => .nil
  | _, _, .cons h r => .cons (Da.ex e sub h) (DaAll.ex e sub r)
end
mutual
theorem Da.dp : ∀ {v : V} {d : PyData}, Da K S H v d → Dp K H v d
  | _, _, .non => .non
  | _, _, .bl b => .bl b
  | _, _, .int i => .int i
  | _, _, .str x => .str x
  | _, _, .lst _ h r => .lst h (DaAll.dp r)
  | _, _, .tup h r => .tup h (DaAll.dp r)
theorem DaAll.dp : ∀ {vs : List V} {ds : List PyData}, DaAll K S H vs ds → DpAll K H vs ds
  | _, _, .nil => .nil
  | _, _, .cons h r => .cons (Da.dp h) (DaAll.dp r)
end
mutual
theorem Da.less (sub : ∀ b ∈ S', b ∈ S) : ∀ {v : V} {d : PyData}, Da K S H v d → Da K S' H v d
  | _, _, .non => .non
  | _, _, .bl b => .bl b
  | _, _, .int i => .int i
  | _, _, .str x => .str x
  | _, _, .lst n h r => .lst (fun z => n (sub _ z)) h (DaAll.less sub r)
  | _, _, .tup h r => .tup h (DaAll.less sub r)
theorem DaAll.less (sub : ∀ b ∈ S', b ∈ S) : ∀ {vs : List V} {ds : List PyData}, DaAll K S H vs ds → DaAll K S' H vs ds
  | _, _, .nil => .nil
  | _, _, .cons h r => .cons (Da.less sub h) (DaAll.less sub r)
end
mutual
theorem Tp.da : ∀ {v : V} {d : PyData}, Tp K H v d → Da K S H v d
  | _, _, .non => .non
  | _, _, .bl b => .bl b
  | _, _, .int i => .int i
  | _, _, .str x => .str x
  | _, _, .tup h r => .tup h (TpAll.da r)
theorem TpAll.da : ∀ {vs : List V} {ds : List PyData}, TpAll K H vs ds → DaAll K S H vs ds
  | _, _, .nil => .nil
  | _, _, .cons h r => .cons (Tp.da h) (TpAll.da r)
end
theorem DaAll.len {vs : List V} {ds : List PyData} (h : DaAll K S H vs ds) : vs.length = ds.length := by
  induction vs generalizing ds with
  | nil => cases h; rfl
  | cons v vs ih => cases h with | cons a b => rw [List.length_cons, List.length_cons, ih b]
theorem DaAll.get {vs : List V} {ds : List PyData} (h : DaAll K S H vs ds) : ∀ {i : Nat} {v : V}, vs[i]? = some v → ∃ d, ds[i]? = some d ∧ Da K S H v d := by
  induction vs generalizing ds with
  | nil => intro i v e; simp at e
  | cons v0 vs ih =>
    cases h with
    | cons a b =>
      intro i v e
      cases i with
      | zero => cases e; exact ⟨_, rfl, a⟩
      | succ i => exact ih b (i := i) (by simpa using e)
theorem DaAll.app {vs us : List V} {ds es : List PyData} (h : DaAll K S H vs ds) (g : DaAll K S H us es) : DaAll K S H (vs ++ us) (ds ++ es) := by
  induction vs generalizing ds with
  | nil => cases h; exact g
  | cons v vs ih => cases h with | cons a b => exact .cons a (ih b)
theorem DaAll.take {vs : List V} {ds : List PyData} (h : DaAll K S H vs ds) : ∀ n, DaAll K S H (vs.take n) (ds.take n) := by
  induction vs generalizing ds with
  | nil => cases h; intro n; rw [List.take_nil, List.take_nil]; exact .nil
  | cons v vs ih =>
    cases h with
    | cons a b =>
      intro n
      cases n with
      | zero => exact .nil
      | succ n => exact .cons a (ih b n)
theorem DaAll.drop {vs : List V} {ds : List PyData} (h : DaAll K S H vs ds) : ∀ n, DaAll K S H (vs.drop n) (ds.drop n) := by
  induction vs generalizing ds with
  | nil => cases h; intro n; rw [List.drop_nil, List.drop_nil]; exact .nil
  | cons v vs ih =>
    cases h with
    | cons a b =>
      intro n
      cases n with
      | zero => exact .cons a b
      | succ n => exact ih b n
/-- a cut of a tuple -/
theorem da_cut {a : Addr} {xs : List V} {ds : List PyData} {lo hi : Option Int} {Q : VK} (hs : SqT K H a xs) (h : DaAll K S H xs ds)
    (q : ∀ p H' ys es, Ex [] H H' → SqT K H' p ys → DaAll K S H' ys es → es.length ≤ ds.length → (∀ d ∈ es, d ∈ ds) → Q (.ref p) H') : rSlA K (.ref a) lo hi H Q := by
  refine ⟨a, xs, rfl, hs, fun _ => q a H xs ds .refl hs h (Nat.le_refl _) fun _ z => z, fun _ p np => ?_⟩
  have x : Ex [] H (upd H p (.tup (cutV xs lo hi))) := .new np
  have hc : ∃ i j, cutV xs lo hi = (xs.drop i).take j := ⟨_, _, rfl⟩
  obtain ⟨i, j, e⟩ := hc
  refine q p _ (cutV xs lo hi) ((ds.drop i).take j) x (.of upd_same) ?_ ?_ ?_
  · rw [e] at x ⊢; exact ((h.drop i).take j).ex x fun _ z => by cases z
  · rw [List.length_take, List.length_drop]; omega
  · intro d m; exact List.mem_of_mem_drop (List.mem_of_mem_take m)
/-- two tuples, one behind the other -/
theorem da_cat {a b : Addr} {xs ys : List V} {ds es : List PyData} {Q : VK} (ha : SqT K H a xs) (hb : SqT K H b ys) (da : DaAll K S H xs ds) (db : DaAll K S H ys es) (hl : ds.length + es.length ≤ 1000)
    (q : ∀ p H' zs, Ex [] H H' → SqT K H' p zs → DaAll K S H' zs (ds ++ es) → Q (.ref p) H') : rCatA K (.ref a) (.ref b) H Q := by
  have l1 := da.len
  have l2 := db.len
  refine ⟨a, b, xs, ys, rfl, rfl, ha, hb, by rw [l1, l2]; exact Nat.le_trans hl (by decide), fun z => ?_, fun _ z => ?_, fun _ _ p np => ?_⟩
  · subst z; cases da; exact q b H ys .refl hb db
  · subst z; cases db; rw [List.append_nil] at q; exact q a H xs .refl ha da
  · exact q p _ _ (.new np) (.of upd_same) ((da.app db).ex (.new (xs := []) np) fun _ z => by cases z)
theorem tp_cat {a b : Addr} {xs ys : List V} {ds es : List PyData} {Q : VK} (ha : SqT K H a xs) (hb : SqT K H b ys) (da : TpAll K H xs ds) (db : TpAll K H ys es) (hl : ds.length + es.length ≤ 1000)
    (q : ∀ p H' zs, Ex [] H H' → SqT K H' p zs → TpAll K H' zs (ds ++ es) → Q (.ref p) H') : rCatA K (.ref a) (.ref b) H Q := by
  have l1 := da.len
  have l2 := db.len
  refine ⟨a, b, xs, ys, rfl, rfl, ha, hb, by rw [l1, l2]; exact Nat.le_trans hl (by decide), fun z => ?_, fun _ z => ?_, fun _ _ p np => ?_⟩
  · subst z; cases da; exact q b H ys .refl hb db
  · subst z; cases db; rw [List.append_nil] at q; exact q a H xs .refl ha da
  · exact q p _ _ (.new np) (.of upd_same) ((da.app db).ex (.new (xs := []) np))
end
section
variable {X : Cx} {K : PySem.W.Frag}
theorem yesA (n : Nat) : (List.range n).all (fun _ => true) = true := by simp
/-- a tuple held against () -/
theorem op_eqNilT (h : X.K = K) (hu : X.A.units + 64 < cLine) : OpR X (compareOp .Eq) (fun x y H Q => ∃ a b xs, x = .ref a ∧ y = .ref b ∧ SqT K H a xs ∧ SqT K H b [] ∧ Q (.bl xs.isEmpty) H) := by
  subst h
  intro pins s σ H x y v u Q I rx ry h
  obtain ⟨a, b, xs, rfl, rfl, ha, hb, q⟩ := h
  cases (show v = Value.ref a from rx)
  cases (show u = Value.ref b from ry)
  obtain ⟨its, r, pt, hz⟩ := I.tuple ha
  obtain ⟨its2, r2, pt2, hz2⟩ := I.tuple hb
  cases r2
  refine SeqAt.eq_tupleAt (e := fun _ => true) pt pt2 (by omega) (fun j h1 h2 => absurd h2 (Nat.not_lt_zero j)) ⟨.bl xs.isEmpty, H, I, ?_, q⟩
  rw [yesA]
  cases r with
  | nil => rfl
  | cons _ _ => simp; rfl
end
end Kk

namespace K45
open PySem PySem.Spec PyProof.Rows L2 Kk
def topS (i : Nat) : Stmt := PySem.Challenge.pw_wipeways_k45_answers_that_lack.main.body.getD i (.Pass ⟨0, 0, 0, 0⟩)
abbrev s_is_whole : Stmt := topS 13
abbrev s_first : Stmt := topS 20
abbrev s_choices : Stmt := topS 23
abbrev s_empties : Stmt := topS 24
abbrev s_finit : Stmt := inClass (topS 28) 0
abbrev s_holds : Stmt := inClass (topS 28) 1
theorem sc_is_whole : FnScope ["thing"] ["thing"] (defScope s_is_whole) := ⟨rfl, rfl, rfl, by decide +kernel, rfl, by decide +kernel, by decide +kernel⟩
theorem sc_first : FnScope ["program", "name"] ["program", "name"] (defScope s_first) := ⟨rfl, rfl, rfl, by decide +kernel, rfl, by decide +kernel, by decide +kernel⟩
theorem sc_choices : FnScope ["word"] ["word"] (defScope s_choices) := ⟨rfl, rfl, rfl, by decide +kernel, rfl, by decide +kernel, by decide +kernel⟩
theorem sc_empties : FnScope ["word", "box"] ["word", "box"] (defScope s_empties) := ⟨rfl, rfl, rfl, by decide +kernel, rfl, by decide +kernel, by decide +kernel⟩
theorem sc_finit : FnScope ["self", "place"] ["self", "place"] (defScope s_finit) := ⟨rfl, rfl, rfl, by decide +kernel, rfl, by decide +kernel, by decide +kernel⟩
theorem sc_holds : FnScope ["self", "box"] ["self", "box"] (defScope s_holds) := ⟨rfl, rfl, rfl, by decide +kernel, rfl, by decide +kernel, by decide +kernel⟩
/-! boxes, and what they hold -/
abbrev Bq := Str × Nat
abbrev Wv := Int × List Str
def qK (q : Bq) : List Key := [.inr q.1, .inl (q.2 : Int)]
def qV (q : Bq) : List V := [.str q.1, .int (q.2 : Int)]
def qD (q : Bq) : PyData := .tuple [.str q.1, .int (q.2 : Int)]
def wvD (x : Wv) : PyData := .tuple [.int x.1, .tuple (x.2.map .str)]
theorem qK_v (q : Bq) : (qK q).map kV = qV q := rfl
theorem qK_inj {q r : Bq} (h : qK q = qK r) : q = r := by
  obtain ⟨a, b⟩ := q
  obtain ⟨c, d⟩ := r
  have h1 := (List.cons.inj h).1
  have h2 := (List.cons.inj (List.cons.inj h).2).1
  have e1 : a = c := Sum.inr.inj h1
  have e2 : (b : Int) = (d : Int) := Sum.inl.inj h2
  rw [e1, Int.ofNat_inj.mp e2]
/-- a dict of boxes that hold f; at most n of them -/
def Hd (K : PySem.W.Frag) (H : Hp) (b : Addr) (kd Ws : List Str) (n : Nat) (f : Bq → Wv) : Prop := ∃ kvs : List (List Key × V), H b = some (.dT kvs) ∧ kvs.length ≤ n ∧ (kvs.map (·.1)).Nodup ∧ (∀ kv ∈ kvs, ∃ q : Bq, kv.1 = qK q ∧ q.1 ∈ kd) ∧
  (∀ q v, valV kvs (qK q) = some v → Tp K H v (wvD (f q))) ∧ (∀ q, valV kvs (qK q) = none → f q = (0, [])) ∧ ∀ q, (f q).2.Nodup ∧ ∀ s ∈ (f q).2, s ∈ Ws
def setF (f : Bq → Wv) (q : Bq) (x : Wv) : Bq → Wv := fun r => if r = q then x else f r
theorem putK_keys {κ : Type} [DecidableEq κ] (kvs : List (κ × V)) (k : κ) (v : V) : (putK kvs k v).map (·.1) = if k ∈ kvs.map (·.1) then kvs.map (·.1) else kvs.map (·.1) ++ [k] := by
  unfold putK
  by_cases h : (kvs.any fun kv => decide (kv.1 = k)) = true
  · have m : k ∈ kvs.map (·.1) := by
      obtain ⟨x, hx, e⟩ := List.any_eq_true.mp h
      exact List.mem_map.mpr ⟨x, hx, of_decide_eq_true e⟩
    rw [if_pos h, if_pos m, List.map_map]
    refine List.map_congr_left fun x _ => ?_
    show (if x.1 = k then (x.1, v) else x).1 = x.1
    split <;> rfl
  · have m : ¬ k ∈ kvs.map (·.1) := fun z => h (by
      obtain ⟨x, hx, e⟩ := List.mem_map.mp z
      exact List.any_eq_true.mpr ⟨x, hx, decide_eq_true e⟩)
    rw [if_neg h, if_neg m, List.map_append]; rfl
theorem Hd.ex {K : PySem.W.Frag} {H H' : Hp} {b : Addr} {kd Ws : List Str} {n : Nat} {f : Bq → Wv} {xs : List Addr} (h : Hd K H b kd Ws n f) (e : Ex xs H H') (m : b ∉ xs) : Hd K H' b kd Ws n f := by
  obtain ⟨kvs, h1, h2, h3, h4, h5, h6, h7⟩ := h
  exact ⟨kvs, e.a b _ m h1 (fun _ z => by cases z), h2, h3, h4, fun q v hv => (h5 q v hv).ex e, h6, h7⟩
theorem Hd.mono {K : PySem.W.Frag} {H : Hp} {b : Addr} {kd Ws : List Str} {n m : Nat} {f : Bq → Wv} (h : Hd K H b kd Ws n f) (e : n ≤ m) : Hd K H b kd Ws m f := by
  obtain ⟨kvs, h1, h2, r⟩ := h
  exact ⟨kvs, h1, Nat.le_trans h2 e, r⟩
theorem Hd.put {K : PySem.W.Frag} {H : Hp} {b : Addr} {kd Ws : List Str} {n : Nat} {f : Bq → Wv} {kvs : List (List Key × V)} {q : Bq} {v : V} {x : Wv} (h1 : H b = some (.dT kvs)) (h2 : kvs.length ≤ n) (h3 : (kvs.map (·.1)).Nodup) (h4 : ∀ kv ∈ kvs, ∃ q : Bq, kv.1 = qK q ∧ q.1 ∈ kd)
    (h5 : ∀ q v, valV kvs (qK q) = some v → Tp K H v (wvD (f q))) (h6 : ∀ q, valV kvs (qK q) = none → f q = (0, [])) (h7 : ∀ q, (f q).2.Nodup ∧ ∀ s ∈ (f q).2, s ∈ Ws) (hq : q.1 ∈ kd) (hv : Tp K H v (wvD x)) (hx : x.2.Nodup ∧ ∀ s ∈ x.2, s ∈ Ws) :
    Hd K (upd H b (.dT (putK kvs (qK q) v))) b kd Ws (n + 1) (setF f q x) := by
  have e : Ex [b] H (upd H b (.dT (putK kvs (qK q) v))) := .put h1 (fun _ z => by cases z) (by simp)
  have hk := putK_keys kvs (qK q) v
  have vv : ∀ r, valV (putK kvs (qK q) v) (qK r) = if r = q then some v else valV kvs (qK r) := fun r => by
    rw [valV_put]
    by_cases z : r = q
    · rw [if_pos z, if_pos (by rw [z])]
    · rw [if_neg z, if_neg fun y => z (qK_inj y)]
  refine ⟨_, upd_same, Nat.le_trans (length_putK _ _ _) (by omega), ?_, fun kv hkv => ?_, fun r u hu => ?_, fun r hr => ?_, fun r => ?_⟩
  · rw [hk]
    split
    · exact h3
    · rename_i m
      exact List.nodup_append.mpr ⟨h3, by simp, fun a ha b hb => by rw [List.mem_singleton.mp hb]; exact fun z => m (z ▸ ha)⟩
  · have hm : kv.1 ∈ (putK kvs (qK q) v).map (·.1) := List.mem_map.mpr ⟨kv, hkv, rfl⟩
    rw [hk] at hm
    have fin : kv.1 ∈ kvs.map (·.1) → ∃ q : Bq, kv.1 = qK q ∧ q.1 ∈ kd := fun z => by
      obtain ⟨x, hx, ex⟩ := List.mem_map.mp z
      rw [← ex]; exact h4 x hx
    split at hm
    · exact fin hm
    · rcases List.mem_append.mp hm with z | z
      · exact fin z
      · exact ⟨q, List.mem_singleton.mp z, hq⟩
  · rw [vv] at hu
    unfold setF
    split at hu
    · rename_i z
      cases hu
      rw [if_pos z]; exact hv.ex e
    · rename_i z
      rw [if_neg z]; exact (h5 r u hu).ex e
  · rw [vv] at hr
    unfold setF
    split at hr
    · cases hr
    · rename_i z
      rw [if_neg z]; exact h6 r hr
  · unfold setF
    split
    · exact hx
    · exact h7 r
/-- a box, as it stands -/
def BxT (H : Hp) (v : V) (q : Bq) : Prop := ∃ t, v = .ref t ∧ H t = some (.tup (qV q))
theorem BxT.ex {H H' : Hp} {v : V} {q : Bq} {xs : List Addr} (h : BxT H v q) (e : Ex xs H H') : BxT H' v q := by
  obtain ⟨t, rfl, h⟩ := h
  exact ⟨t, rfl, e.tup h⟩
/-- a frame -/
def FrH (CF : Addr) (H : Hp) (fr b : Addr) (pl : V) : Prop := ∃ dx fs, H fr = some (.ins CF dx fs) ∧ fs.lookup ("boxes" : Str) = some (.ref b) ∧ fs.lookup ("place" : Str) = some pl ∧ fs.lookup ("holds" : Str) = none ∧ fs.lookup ("held" : Str) = none ∧ fs.length ≤ 10
theorem FrH.ex {CF : Addr} {H H' : Hp} {fr b : Addr} {pl : V} {xs : List Addr} (h : FrH CF H fr b pl) (e : Ex xs H H') (m : fr ∉ xs) : FrH CF H' fr b pl := by
  obtain ⟨dx, fs, h1, r⟩ := h
  exact ⟨dx, fs, e.a fr _ m h1 (fun _ z => by cases z), r⟩
structure TF (K : PySem.W.Frag) (mg : Str → Option Value) (CF : Addr) : Prop where
  cl : Cls K CF
  nP : NoAttr K CF "place"
  nB : NoAttr K CF "boxes"
  mgC : mg "Frame" = some (.ref CF)
/-- the module's own tuple of nothing -/
structure Nth (K : PySem.W.Frag) (mg : Str → Option Value) (nA eA : Addr) : Prop where
  m : mg "NOTHING" = some (.ref nA)
  n : ∀ H, SqT K H nA [.int 0, .ref eA]
  e : ∀ H, SqT K H eA []
theorem Nth.tp {K : PySem.W.Frag} {mg : Str → Option Value} {nA eA : Addr} (h : Nth K mg nA eA) (H : Hp) : Tp K H (.ref nA) (wvD (0, [])) := .tup (h.n H) (.cons (.int 0) (.cons (.tup (h.e H) .nil) .nil))
section
variable {P : Program} {w : World} {K : PySem.W.Frag} {mg : Str → Option Value} {base : Heap}
def spWholeI : Sp := fun vs H Q _ => ∃ n : Int, vs = [.int n] ∧ Q (.bl true) H
theorem ok_is_whole {f : Addr} {fd : FuncData} {k : Nat} (F : Fun K "is_whole" "is_whole" s_is_whole f fd) (m_isinstance : mg "isinstance" = none) (m_int : mg "int" = none) (m_bool : mg "bool" = none) : FnOk P w K mg base CX0 (k + 1) f fd ["thing"] spWholeI := by
  refine F.ok sc_is_whole (fun vs H Q E h => ?_) (fun cdv A outer s H vs Q E hr h => ?_)
  · obtain ⟨n, rfl, _⟩ := h; rfl
  · obtain ⟨n, rfl, q⟩ := h
    refine ⟨_, (pss_one (ps_ret (pe_and (pe_callB call_isi (by rfl) m_isinstance (by decide +kernel) (pa_cons (pv 0) (pa_cons (pe_bltn (v := .ty "int") (by rfl) m_int (by decide +kernel) rfl) pa_nil))) (pe_one (pe_not (pe_callB call_isi (by rfl) m_isinstance (by decide +kernel) (pa_cons (pv 0) (pa_cons (pe_bltn (v := .ty "bool") (by rfl) m_bool (by decide +kernel) rfl) pa_nil)))))))), ?_⟩
    refine ⟨.int n, rfl, .int n, .ty "int", .type "int", .type "int", true, rfl, .ty "int", .base (.int n), kit_ty (by decide +kernel), _, rfl, iteT ?_⟩
    exact ⟨.int n, rfl, .int n, .ty "bool", .type "int", .type "bool", false, rfl, .ty "bool", .base (.int n), kit_ty (by decide +kernel), _, rfl, q⟩
def spFirst : Sp := fun vs H Q _ => ∃ (p v : V), vs = [p, v] ∧ ∀ t, H t = none → Q (.ref t) (upd H t (.tup [v, .int 0]))
theorem ok_first {f : Addr} {fd : FuncData} {k : Nat} (F : Fun K "first_place" "first_place" s_first f fd) : FnOk P w K mg base CX0 (k + 1) f fd ["program", "name"] spFirst := by
  refine F.ok sc_first (fun vs H Q E h => ?_) (fun cdv A outer s H vs Q E hr h => ?_)
  · obtain ⟨p, v, rfl, _⟩ := h; rfl
  · obtain ⟨p, v, rfl, q⟩ := h
    refine ⟨_, pss_one (ps_ret (pe_tup (pa_cons (pv 1) (pa_cons pe_int pa_nil)))), ?_⟩
    exact ⟨v, rfl, (by show 2 ≤ sizeLine; decide), fun t nt => q t nt⟩
def spFInit (CF : Addr) : Sp := fun vs H Q _ => ∃ (p dx : Addr) (pl : V), vs = [.ref p, pl] ∧ H p = some (.ins CF dx []) ∧ ∀ H' b, H b = none → Ex [p] H H' → FrH CF H' p b pl → H' b = some (.dT []) → Q .non H'
theorem lk_putF2 {a b : V} {m : Str} (h1 : ¬ m = "boxes") (h2 : ¬ m = "place") : (putF "boxes" b (putF "place" a [])).lookup m = none := by
  rw [lookup_putF, if_neg h1, lookup_putF, if_neg h2]; rfl
theorem ok_finit {f CF : Addr} {fd : FuncData} {k : Nat} (F : Fun K "__init__" "Frame.__init__" s_finit f fd) (T : TF K mg CF) : FnOk P w K mg base CX0 (k + 1) f fd ["self", "place"] (spFInit CF) := by
  refine F.ok sc_finit (fun vs H Q E h => ?_) (fun cdv A outer s H vs Q E hr h => ?_)
  · obtain ⟨p, dx, pl, rfl, _⟩ := h; rfl
  · obtain ⟨p, dx, pl, rfl, hp, q⟩ := h
    refine ⟨_, pss_cons (ps_fld (pv 0) (pv 1) rfl) (pss_one (ps_fld (pv 0) pe_dnewT rfl)), ?_⟩
    refine ⟨pl, rfl, .ref p, rfl, p, CF, dx, [], rfl, hp, T.cl, T.nP, (by show 0 < 1000; decide), fun b nb => ?_⟩
    have nb0 : H b = none := upd_free nb
    have bp : p ≠ b := fun z => by rw [z, nb0] at hp; cases hp
    refine ⟨.ref p, rfl, p, CF, dx, _, rfl, (by rw [upd_ne bp, upd_same]), T.cl, T.nB, (by show 1 < 1000; decide), ?_⟩
    refine q _ b nb0 ?_ ⟨dx, _, upd_same, ?_, ?_, lk_putF2 (by decide +kernel) (by decide +kernel), lk_putF2 (by decide +kernel) (by decide +kernel), ?_⟩ (by rw [upd_ne bp.symm, upd_same])
    · have y1 : Ex [p] H (upd H p (.ins CF dx (putF "place" pl []))) := .put hp (fun _ z => by cases z) (by simp)
      refine (y1.trans (.new nb)).trans (.put (u := .ins CF dx (putF "place" pl [])) ?_ (fun _ z => by cases z) (by simp))
      rw [upd_ne bp, upd_same]
    · rw [lookup_putF, if_pos rfl]
    · rw [lookup_putF, if_neg (by decide +kernel), lookup_putF, if_pos rfl]
    · have := length_putF "boxes" (.ref b) (putF "place" pl [])
      have := length_putF "place" pl []
      simp only [List.length_nil] at *
      omega
def spHolds (K : PySem.W.Frag) (CF : Addr) : Sp := fun vs H Q _ => ∃ (fr b : Addr) (pl v : V) (q : Bq) (kd Ws : List Str) (n : Nat) (f : Bq → Wv), vs = [.ref fr, v] ∧ FrH CF H fr b pl ∧ Hd K H b kd Ws n f ∧ BxT H v q ∧ ∀ u, Tp K H u (wvD (f q)) → Q u H
theorem ok_holds {f CF nA eA : Addr} {fd : FuncData} {k : Nat} (F : Fun K "holds" "Frame.holds" s_holds f fd) (T : TF K mg CF) (N : Nth K mg nA eA) : FnOk P w K mg base CX0 (k + 1) f fd ["self", "box"] (spHolds K CF) := by
  refine F.ok sc_holds (fun vs H Q E h => ?_) (fun cdv A outer s H vs Q E hr h => ?_)
  · obtain ⟨fr, b, pl, v, q, kd, Ws, n, f, rfl, _⟩ := h; rfl
  · obtain ⟨fr, b, pl, v, q, kd, Ws, n, f, rfl, ⟨dx, fs, h1, h2, _⟩, ⟨kvs, k1, k2, k3, k4, k5, k6, k7⟩, ⟨t, rfl, ht⟩, hq⟩ := h
    refine ⟨_, pss_one (ps_ret (pe_dget2 (hu_of hr) (pe_fld (pv 0) rfl) (pv 1) (pe_glob (v := .ref nA) rfl N.m rfl) ⟨rfl, rfl, rfl, rfl⟩)), ?_⟩
    refine ⟨.ref fr, rfl, fr, CF, dx, fs, .ref b, rfl, h1, T.cl, T.nB, h2, b, rfl, .inr ⟨kvs, .inl k1⟩, .ref t, rfl, valV kvs (qK q), DGet.t k1 ht, ?_⟩
    cases hv : valV kvs (qK q) with
    | none =>
      refine hq _ ?_
      rw [k6 q hv]; exact N.tp H
    | some u => exact hq u (k5 q u hv)
end
end K45

namespace Kk
open PySem PySem.Spec PyProof.Rows L2
def leS (a b : Str) : Prop := a.cps.toList ≤ b.cps.toList
theorem leS_of {a b : Str} (h : ltCps b.cps.toList a.cps.toList = false) : leS a b := by
  rw [ltCps_eq] at h
  exact List.not_lt.mp (of_decide_eq_false h)
theorem leS_trans {a b c : Str} (h : leS a b) (g : leS b c) : leS a c := List.le_trans h g
theorem leS_anti {a b : Str} (h : leS a b) (g : leS b a) : a = b := by
  have e : a.cps.toList = b.cps.toList := List.le_antisymm h g
  cases a; cases b
  simp only at e
  congr
  exact Array.ext' e
theorem pw_rise : ∀ (l : List Str) (p : Str), risingS p l = true → (p :: l).Pairwise leS
  | [], p, _ => List.pairwise_singleton _ _
  | x :: r, p, h => by
    have h' : (!ltCps x.cps.toList p.cps.toList && risingS x r) = true := h
    rw [Bool.and_eq_true] at h'
    have h1 : leS p x := leS_of (by simpa using h'.1)
    have h2 := pw_rise r x h'.2
    refine List.pairwise_cons.mpr ⟨fun y hy => ?_, h2⟩
    rcases List.mem_cons.mp hy with z | z
    · rw [z]; exact h1
    · exact leS_trans h1 (List.rel_of_pairwise_cons h2 z)
theorem pw_sorted {l : List Str} (h : sortedS l = true) : l.Pairwise leS := by
  cases l with
  | nil => exact List.Pairwise.nil
  | cons x r => exact pw_rise r x h
theorem srt_uniq : ∀ (a b : List Str), a.Pairwise leS → b.Pairwise leS → a.Nodup → b.Nodup → (∀ x, x ∈ a ↔ x ∈ b) → a = b
  | [], [], _, _, _, _, _ => rfl
  | [], y :: b, _, _, _, _, h => by have := (h y).mpr List.mem_cons_self; cases this
  | x :: a, [], _, _, _, _, h => by have := (h x).mp List.mem_cons_self; cases this
  | x :: a, y :: b, pa, pb, na, nb, h => by
    have e : x = y := by
      rcases List.mem_cons.mp ((h x).mp List.mem_cons_self) with z | z
      · exact z
      · rcases List.mem_cons.mp ((h y).mpr List.mem_cons_self) with z2 | z2
        · exact z2.symm
        · exact leS_anti (List.rel_of_pairwise_cons pa z2) (List.rel_of_pairwise_cons pb z)
    subst e
    have na' := List.nodup_cons.mp na
    have nb' := List.nodup_cons.mp nb
    rw [srt_uniq a b (List.pairwise_cons.mp pa).2 (List.pairwise_cons.mp pb).2 na'.2 nb'.2 fun z => ?_]
    constructor
    · intro hz
      rcases List.mem_cons.mp ((h z).mp (List.mem_cons_of_mem _ hz)) with q | q
      · rw [q] at hz; exact absurd hz na'.1
      · exact q
    · intro hz
      rcases List.mem_cons.mp ((h z).mpr (List.mem_cons_of_mem _ hz)) with q | q
      · rw [q] at hz; exact absurd hz nb'.1
      · exact q
/-- the texts of a list, each once, rising -/
def SU (ws ys : List Str) : Prop := sortedS ys = true ∧ ys.Nodup ∧ ∀ k, k ∈ ys ↔ k ∈ ws
theorem SU.uniq {ws ys zs : List Str} (h : SU ws ys) (g : SU ws zs) : ys = zs := srt_uniq ys zs (pw_sorted h.1) (pw_sorted g.1) h.2.1 g.2.1 fun x => by rw [h.2.2 x, g.2.2 x]
noncomputable def sortU (ws : List Str) : List Str := Classical.epsilon (SU ws)
theorem SU.eq {ws ys : List Str} (h : SU ws ys) : sortU ws = ys := SU.uniq (Classical.epsilon_spec ⟨ys, h⟩) h
theorem rise_pw : ∀ (l : List Str) (p : Str), (p :: l).Pairwise leS → risingS p l = true
  | [], p, _ => rfl
  | x :: r, p, h => by
    show (!ltCps x.cps.toList p.cps.toList && risingS x r) = true
    have h1 : leS p x := List.rel_of_pairwise_cons h List.mem_cons_self
    rw [rise_pw r x (List.pairwise_cons.mp h).2, Bool.and_true, ltCps_eq]
    have : ¬ x.cps.toList < p.cps.toList := List.not_lt.mpr h1
    simp [this]
theorem sorted_pw {l : List Str} (h : l.Pairwise leS) : sortedS l = true := by
  cases l with
  | nil => rfl
  | cons x r => exact rise_pw r x h
theorem dedup_ex : ∀ ws : List Str, ∃ zs : List Str, zs.Nodup ∧ ∀ k, k ∈ zs ↔ k ∈ ws
  | [] => ⟨[], by simp, fun k => Iff.rfl⟩
  | w :: ws => by
    obtain ⟨zs, h1, h2⟩ := dedup_ex ws
    by_cases m : w ∈ zs
    · refine ⟨zs, h1, fun k => ?_⟩
      rw [h2 k, List.mem_cons]
      refine ⟨.inr, fun z => z.elim (fun e => ?_) id⟩
      rw [e]; exact (h2 w).mp m
    · exact ⟨w :: zs, List.nodup_cons.mpr ⟨m, h1⟩, fun k => by rw [List.mem_cons, List.mem_cons, h2 k]⟩
open Classical in
theorem su_ex (ws : List Str) : ∃ ys, SU ws ys := by
  obtain ⟨zs, h1, h2⟩ := dedup_ex ws
  have pm := List.mergeSort_perm zs (fun a b => decide (leS a b))
  refine ⟨zs.mergeSort (fun a b => decide (leS a b)), sorted_pw ?_, pm.nodup_iff.mpr h1, fun k => by rw [pm.mem_iff, h2 k]⟩
  have := List.pairwise_mergeSort (le := fun a b => decide (leS a b)) (fun a b c hab hbc => decide_eq_true (leS_trans (of_decide_eq_true hab) (of_decide_eq_true hbc)))
    (fun a b => by
      rcases List.le_total a.cps.toList b.cps.toList with z | z
      · rw [Bool.or_eq_true]; exact .inl (decide_eq_true z)
      · rw [Bool.or_eq_true]; exact .inr (decide_eq_true z)) zs
  exact this.imp fun z => of_decide_eq_true z
theorem sortU_ok (ws : List Str) : SU ws (sortU ws) := Classical.epsilon_spec (su_ex ws)
end Kk

namespace K45
open PySem PySem.Spec PyProof.Rows L2 Kk
abbrev s_put : Stmt := topS 30
abbrev n_put : List Str := ["word", "frame", "answer", "number", "worths", "other", "more"]
theorem sc_put : FnScope n_put ["word", "frame", "answer"] (defScope s_put) := ⟨rfl, rfl, rfl, by decide +kernel, rfl, by decide +kernel, by decide +kernel⟩
theorem sN {a b : Str} (h : ¬ a = b) {A B : Prop} (x : B) : if decide (V.str a = V.str b) = true then A else B := by
  rw [if_neg fun e => h (V.str.inj (of_decide_eq_true e))]; exact x
theorem sY {a : Str} {A B : Prop} (x : A) : if decide (V.str a = V.str a) = true then A else B := by
  rw [if_pos (decide_eq_true rfl)]; exact x
theorem at0 {α : Type} {x : α} {xs : List α} : atI (x :: xs) 0 = some x := atI_nat (j := 0) rfl
theorem at1 {α : Type} {x y : α} {xs : List α} : atI (x :: y :: xs) 1 = some y := atI_nat (j := 1) rfl
theorem at2 {α : Type} {x y z : α} {xs : List α} : atI (x :: y :: z :: xs) 2 = some z := atI_nat (j := 2) rfl
theorem at3 {α : Type} {x y z u : α} {xs : List α} : atI (x :: y :: z :: u :: xs) 3 = some u := atI_nat (j := 3) rfl
/-! words whose boxes are hands and slots -/
inductive Wo
  | take (b : Bq) (s : Str)
  | ask (b : Bq)
  | number (b : Bq) (n : Int)
  | copy (b c : Bq)
  | mix (b c d : Bq)
  | opn (b c : Bq)
  | tell (b : Bq)
  | wipe (b : Bq)
def WoX (H : Hp) : Wo → List V → Prop
  | .take b s, xs => ∃ v, xs = [.str (Str.ofString "take"), v, .str s] ∧ BxT H v b
  | .ask b, xs => ∃ v, xs = [.str (Str.ofString "ask"), v] ∧ BxT H v b
  | .number b n, xs => ∃ v, xs = [.str (Str.ofString "number"), v, .int n] ∧ BxT H v b
  | .copy b c, xs => ∃ v u, xs = [.str (Str.ofString "copy"), v, u] ∧ BxT H v b ∧ BxT H u c
  | .mix b c d, xs => ∃ v u z, xs = [.str (Str.ofString "mix"), v, u, z] ∧ BxT H v b ∧ BxT H u c ∧ BxT H z d
  | .opn b c, xs => ∃ v u, xs = [.str (Str.ofString "open"), v, u] ∧ BxT H v b ∧ BxT H u c
  | .tell b, xs => ∃ v, xs = [.str (Str.ofString "tell"), v] ∧ BxT H v b
  | .wipe b, xs => ∃ v, xs = [.str (Str.ofString "wipe"), v] ∧ BxT H v b
def WoH (K : PySem.W.Frag) (H : Hp) (v : V) (W : Wo) : Prop := ∃ a xs, v = .ref a ∧ SqT K H a xs ∧ WoX H W xs
theorem WoX.ex {H H' : Hp} {ys : List Addr} (e : Ex ys H H') {W : Wo} {xs : List V} (h : WoX H W xs) : WoX H' W xs := by
  cases W with
  | take b s => obtain ⟨v, h1, h2⟩ := h; exact ⟨v, h1, h2.ex e⟩
  | ask b => obtain ⟨v, h1, h2⟩ := h; exact ⟨v, h1, h2.ex e⟩
  | number b n => obtain ⟨v, h1, h2⟩ := h; exact ⟨v, h1, h2.ex e⟩
  | copy b c => obtain ⟨v, u, h1, h2, h3⟩ := h; exact ⟨v, u, h1, h2.ex e, h3.ex e⟩
  | mix b c d => obtain ⟨v, u, z, h1, h2, h3, h4⟩ := h; exact ⟨v, u, z, h1, h2.ex e, h3.ex e, h4.ex e⟩
  | opn b c => obtain ⟨v, u, h1, h2, h3⟩ := h; exact ⟨v, u, h1, h2.ex e, h3.ex e⟩
  | tell b => obtain ⟨v, h1, h2⟩ := h; exact ⟨v, h1, h2.ex e⟩
  | wipe b => obtain ⟨v, h1, h2⟩ := h; exact ⟨v, h1, h2.ex e⟩
theorem WoH.ex {K : PySem.W.Frag} {H H' : Hp} {ys : List Addr} (e : Ex ys H H') {W : Wo} {v : V} (h : WoH K H v W) : WoH K H' v W := by
  obtain ⟨a, xs, rfl, h1, h2⟩ := h
  exact ⟨a, xs, rfl, e.seqT h1, h2.ex e⟩
def chW : Wo → Int
  | .take _ _ => 10000
  | .ask _ => 10000
  | _ => 0
noncomputable def valW (f : Bq → Wv) (ans : Int) : Wo → Wv
  | .take _ s => (ans, [s])
  | .ask _ => (ans, [])
  | .number _ n => (n, [])
  | .copy _ c => f c
  | .mix _ c d => (((f c).1 + 2 * (f d).1) % 10007, sortU ((f c).2 ++ (f d).2))
  | .opn _ c => ((f c).1 % 2, [])
  | _ => (0, [])
def isPut : Wo → Bool
  | .tell _ => false
  | .wipe _ => false
  | _ => true
def boxW : Wo → Bq
  | .take b _ => b
  | .ask b => b
  | .number b _ => b
  | .copy b _ => b
  | .mix b _ _ => b
  | .opn b _ => b
  | .tell b => b
  | .wipe b => b
theorem strs_inv {K : PySem.W.Frag} {H : Hp} : ∀ {xs : List V} {ws : List Str}, TpAll K H xs (ws.map PyData.str) → xs = ws.map V.str
  | _, [], h => by cases h; rfl
  | _, w :: ws, h => by
    cases h with
    | cons a b => cases a; rw [strs_inv b]; rfl
/-- what a box holds, taken apart -/
theorem wv_inv {K : PySem.W.Frag} {H : Hp} {u : V} {x : Wv} (h : Tp K H u (wvD x)) : ∃ a c, u = .ref a ∧ SqT K H a [.int x.1, .ref c] ∧ SqT K H c (x.2.map V.str) := by
  unfold wvD at h
  cases h with
  | tup hs ha =>
    rename_i a xs
    cases ha with
    | cons h1 h2 =>
      cases h1
      cases h2 with
      | cons h3 h4 =>
        cases h4
        cases h3 with
        | tup hs2 ha2 =>
          rename_i c ys
          rw [strs_inv ha2] at hs2
          exact ⟨a, c, rfl, hs, hs2⟩
theorem wv_mk {K : PySem.W.Frag} {H : Hp} {a c : Addr} {n : Int} {ws : List Str} (h1 : SqT K H a [.int n, .ref c]) (h2 : SqT K H c (ws.map V.str)) : Tp K H (.ref a) (wvD (n, ws)) :=
  .tup h1 (.cons (.int n) (.cons (.tup h2 (TpAll.strs ws)) .nil))
section
variable {P : Program} {w : World} {K : PySem.W.Frag} {mg : Str → Option Value} {base : Heap}
def spChoices (K : PySem.W.Frag) : Sp := fun vs H Q _ => ∃ (v : V) (W : Wo), vs = [v] ∧ WoH K H v W ∧ Q (.int (chW W)) H
theorem kinds {H : Hp} {W : Wo} {xs : List V} (h : WoX H W xs) : ∃ k r, xs = .str k :: r ∧ ((k = Str.ofString "take" ∧ chW W = 10000) ∨ (k = Str.ofString "ask" ∧ chW W = 10000) ∨ (¬ k = Str.ofString "take" ∧ ¬ k = Str.ofString "ask" ∧ ¬ k = Str.ofString "choose" ∧ ¬ k = Str.ofString "risk" ∧ chW W = 0)) := by
  cases W with
  | take b s => obtain ⟨v, rfl, _⟩ := h; exact ⟨_, _, rfl, .inl ⟨rfl, rfl⟩⟩
  | ask b => obtain ⟨v, rfl, _⟩ := h; exact ⟨_, _, rfl, .inr (.inl ⟨rfl, rfl⟩)⟩
  | number b n => obtain ⟨v, rfl, _⟩ := h; exact ⟨_, _, rfl, .inr (.inr ⟨by decide +kernel, by decide +kernel, by decide +kernel, by decide +kernel, rfl⟩)⟩
  | copy b c => obtain ⟨v, u, rfl, _⟩ := h; exact ⟨_, _, rfl, .inr (.inr ⟨by decide +kernel, by decide +kernel, by decide +kernel, by decide +kernel, rfl⟩)⟩
  | mix b c d => obtain ⟨v, u, z, rfl, _⟩ := h; exact ⟨_, _, rfl, .inr (.inr ⟨by decide +kernel, by decide +kernel, by decide +kernel, by decide +kernel, rfl⟩)⟩
  | opn b c => obtain ⟨v, u, rfl, _⟩ := h; exact ⟨_, _, rfl, .inr (.inr ⟨by decide +kernel, by decide +kernel, by decide +kernel, by decide +kernel, rfl⟩)⟩
  | tell b => obtain ⟨v, rfl, _⟩ := h; exact ⟨_, _, rfl, .inr (.inr ⟨by decide +kernel, by decide +kernel, by decide +kernel, by decide +kernel, rfl⟩)⟩
  | wipe b => obtain ⟨v, rfl, _⟩ := h; exact ⟨_, _, rfl, .inr (.inr ⟨by decide +kernel, by decide +kernel, by decide +kernel, by decide +kernel, rfl⟩)⟩
theorem ok_choices {f : Addr} {fd : FuncData} {k : Nat} (F : Fun K "choices_of" "choices_of" s_choices f fd) (g_MN : ∃ t, mg "MOST_NUMBER" = some (.int 9999 t)) : FnOk P w K mg base CX0 (k + 1) f fd ["word"] (spChoices K) := by
  obtain ⟨t1, g1⟩ := g_MN
  refine F.ok sc_choices (fun vs H Q E h => ?_) (fun cdv A outer s H vs Q E hr h => ?_)
  · obtain ⟨v, W, rfl, _⟩ := h; rfl
  · obtain ⟨v, W, rfl, ⟨a, xs, rfl, hs, hx⟩, q⟩ := h
    refine ⟨_, (pss_cons (ps_if (PW.pt (pw_or (pt_cmpR op_eq (pe_ix ix_tup (pv 0) pe_int (fun _ _ => rfl)) pe_str (nomark _)) (pw_or1 (pt_cmpR op_eq (pe_ix ix_tup (pv 0) pe_int (fun _ _ => rfl)) pe_str (nomark _))))) (pss_one (ps_ret (pe_op op_add (pe_glob (v := .int 9999) rfl g1 ⟨_, rfl⟩) pe_int))) pss_nil)
      (pss_cons (ps_if (pt_cmpR op_eq (pe_ix ix_tup (pv 0) pe_int (fun _ _ => rfl)) pe_str (nomark _)) (pss_one ps_nv) pss_nil)
      (pss_cons (ps_if (pt_cmpR op_eq (pe_ix ix_tup (pv 0) pe_int (fun _ _ => rfl)) pe_str (nomark _)) (pss_one (ps_ret pe_int)) pss_nil)
      (pss_one (ps_ret pe_int))))), ?_⟩
    obtain ⟨kd, r, rfl, hk⟩ := kinds hx
    rcases hk with ⟨rfl, e⟩ | ⟨rfl, e⟩ | ⟨n1, n2, n3, n4, e⟩
    · rw [e] at q
      exact ⟨.ref a, rfl, a, _, 0, _, rfl, rfl, hs, at0, rfl, _, rfl, sY (iteT ⟨9999, 1, rfl, rfl, q⟩)⟩
    · rw [e] at q
      exact ⟨.ref a, rfl, a, _, 0, _, rfl, rfl, hs, at0, rfl, _, rfl, sN (by decide +kernel) ⟨.ref a, rfl, a, _, 0, _, rfl, rfl, hs, at0, rfl, _, rfl, sY ⟨9999, 1, rfl, rfl, q⟩⟩⟩
    · rw [e] at q
      exact ⟨.ref a, rfl, a, _, 0, _, rfl, rfl, hs, at0, rfl, _, rfl, sN n1 ⟨.ref a, rfl, a, _, 0, _, rfl, rfl, hs, at0, rfl, _, rfl, sN n2 ⟨.ref a, rfl, a, _, 0, _, rfl, rfl, hs, at0, rfl, _, rfl, sN n3 ⟨.ref a, rfl, a, _, 0, _, rfl, rfl, hs, at0, rfl, _, rfl, sN n4 q⟩⟩⟩⟩
def spPut (K : PySem.W.Frag) (CF : Addr) : Sp := fun vs H Q _ => ∃ (fr b : Addr) (pl v : V) (W : Wo) (ans : Int) (kd Ws : List Str) (n : Nat) (f : Bq → Wv), vs = [v, .ref fr, .int ans] ∧ WoH K H v W ∧ isPut W = true ∧ FrH CF H fr b pl ∧ Hd K H b kd Ws n f ∧ Ws.length ≤ 20 ∧
  ∀ H' u, Ex [] H H' → Tp K H' u (wvD (valW f ans W)) → Q u H'
theorem ok_put {f CF fH : Addr} {fd fdH : FuncData} {k : Nat} (F : Fun K "put_by" "put_by" s_put f fd) (T : TF K mg CF) (GH : FnOk P w K mg base CX0 k fH fdH ["self", "box"] (spHolds K CF)) (mH : Meth K CF "holds" fH) (bH : Binds K fdH ["self", "box"] [])
    (g_MB : ∃ t, mg "MIXED_BY" = some (.int 10007 t)) (m_tuple : mg "tuple" = none) (m_sorted : mg "sorted" = none) (m_set : mg "set" = none) : FnOk P w K mg base CX0 (k + 1) f fd ["word", "frame", "answer"] (spPut K CF) := by
  obtain ⟨t1, g1⟩ := g_MB
  refine F.ok sc_put (fun vs H Q E h => ?_) (fun cdv A outer s H vs Q E hr h => ?_)
  · obtain ⟨fr, b, pl, v, W, ans, kd, Ws, n, f, rfl, _⟩ := h; rfl
  · obtain ⟨fr, b, pl, v, W, ans, kd, Ws, n, f, rfl, ⟨a, xs, rfl, hs, hx⟩, hp, hF, hD, hW, q⟩ := h
    refine ⟨_, (pss_cons (ps_if (pt_cmpR op_eq (pe_ix ix_tup (pv 0) pe_int (fun _ _ => rfl)) pe_str (nomark _)) (pss_one (ps_ret (pe_tup (pa_cons (pv 2) (pa_cons (pe_tup (pa_cons (pe_ix ix_tup (pv 0) pe_int (fun _ _ => rfl)) pa_nil)) pa_nil))))) pss_nil)
      (pss_cons (ps_if (pt_cmpR op_eq (pe_ix ix_tup (pv 0) pe_int (fun _ _ => rfl)) pe_str (nomark _)) (pss_one (ps_ret (pe_tup (pa_cons (pv 2) (pa_cons (pe_tup pa_nil) pa_nil))))) pss_nil)
      (pss_cons (ps_if (pt_cmpR op_eq (pe_ix ix_tup (pv 0) pe_int (fun _ _ => rfl)) pe_str (nomark _)) (pss_one (ps_ret (pe_tup (pa_cons (pe_ix ix_tup (pv 0) pe_int (fun _ _ => rfl)) (pa_cons (pe_tup pa_nil) pa_nil))))) pss_nil)
      (pss_cons (ps_asg (pe_meth (pv 1) T.cl mH GH hr bH .nil pass0 (pa_cons (pe_ix ix_tup (pv 0) pe_int (fun _ _ => rfl)) pa_nil)) (pg_tup rfl (pgs_cons (pg_name (i := 3) sc_put.nd rfl (.inl rfl)) (pgs_cons (pg_name (i := 4) sc_put.nd rfl (.inl rfl)) pgs_nil))))
      (pss_cons (ps_if (pt_cmpR op_eq (pe_ix ix_tup (pv 0) pe_int (fun _ _ => rfl)) pe_str (nomark _)) (pss_one (ps_ret (pe_tup (pa_cons (pv 3) (pa_cons (pv 4) pa_nil))))) pss_nil)
      (pss_cons (ps_if (pt_cmpR op_eq (pe_ix ix_tup (pv 0) pe_int (fun _ _ => rfl)) pe_str (nomark _)) (pss_one (ps_ret (pe_tup (pa_cons (pe_op op_mod (pv 3) pe_int) (pa_cons (pe_tup pa_nil) pa_nil))))) pss_nil)
      (pss_cons (ps_asg (pe_meth (pv 1) T.cl mH GH hr bH .nil pass0 (pa_cons (pe_ix ix_tup (pv 0) pe_int (fun _ _ => rfl)) pa_nil)) (pg_tup rfl (pgs_cons (pg_name (i := 5) sc_put.nd rfl (.inl rfl)) (pgs_cons (pg_name (i := 6) sc_put.nd rfl (.inl rfl)) pgs_nil))))
      (pss_one (ps_ret (pe_tup (pa_cons (pe_op op_mod (pe_op op_add (pv 3) (pe_op op_mul pe_int (pv 5))) (pe_glob (v := .int 10007) rfl g1 ⟨_, rfl⟩)) (pa_cons (pe_callTy call_tuple_of (by rfl) m_tuple (by decide +kernel) (pa_cons (pe_callB (call_sortSetS rfl) (by rfl) m_sorted (by decide +kernel) (pa_cons (pe_callTy (call_setT rfl) (by rfl) m_set (by decide +kernel) (pa_cons (pe_op op_catA (pv 4) (pv 6)) pa_nil)) pa_nil)) pa_nil)) pa_nil)))))))))))), ?_⟩
    have ix0 : ∀ {x : V} {r : List V}, xs = x :: r → atI xs 0 = some x := fun e => by rw [e]; exact at0
    obtain ⟨dx, fs, hf1, hf2, hf3, hf4, hf5⟩ := id hF
    have two : ∀ (x : Int) (H1 : Hp), Ex [] H H1 → ∀ Z, H1 Z = none → ∀ T2, (upd H1 Z (.tup [])) T2 = none → Tp K (upd (upd H1 Z (.tup [])) T2 (.tup [.int x, .ref Z])) (.ref T2) (wvD (x, [])) := fun x H1 x1 Z nZ T2 nT =>
      wv_mk (ws := []) (.of upd_same) (.of ((Ex.new nT (xs := [])).tup upd_same))
    cases W with
    | tell b => cases hp
    | wipe b => cases hp
    | take b s =>
      obtain ⟨v, rfl, hb⟩ := hx
      refine ⟨.ref a, rfl, a, _, 0, _, rfl, rfl, hs, at0, rfl, _, rfl, sY ?_⟩
      refine ⟨.int ans, rfl, .ref a, rfl, a, _, 2, _, rfl, rfl, hs, at2, (by show 1 ≤ sizeLine; decide), fun Z nZ => ⟨(by show 2 ≤ sizeLine; decide), fun T2 nT => ?_⟩⟩
      have x1 : Ex [] H (upd H Z (.tup [.str s])) := .new nZ
      have x2 : Ex [] (upd H Z (.tup [.str s])) (upd (upd H Z (.tup [.str s])) T2 (.tup [.int ans, .ref Z])) := .new nT
      exact q _ _ (x1.trans x2) (wv_mk (ws := [s]) (.of upd_same) (.of (x2.tup upd_same)))
    | ask b =>
      obtain ⟨v, rfl, hb⟩ := hx
      refine ⟨.ref a, rfl, a, _, 0, _, rfl, rfl, hs, at0, rfl, _, rfl, sN (by decide +kernel) ?_⟩
      refine ⟨.ref a, rfl, a, _, 0, _, rfl, rfl, hs, at0, rfl, _, rfl, sY ?_⟩
      refine ⟨.int ans, rfl, (by show 0 ≤ sizeLine; decide), fun Z nZ => ⟨(by show 2 ≤ sizeLine; decide), fun T2 nT => ?_⟩⟩
      exact q _ _ ((Ex.new nZ).trans (.new nT)) (two ans H .refl Z nZ T2 nT)
    | number b n =>
      obtain ⟨v, rfl, hb⟩ := hx
      refine ⟨.ref a, rfl, a, _, 0, _, rfl, rfl, hs, at0, rfl, _, rfl, sN (by decide +kernel) ?_⟩
      refine ⟨.ref a, rfl, a, _, 0, _, rfl, rfl, hs, at0, rfl, _, rfl, sN (by decide +kernel) ?_⟩
      refine ⟨.ref a, rfl, a, _, 0, _, rfl, rfl, hs, at0, rfl, _, rfl, sY ?_⟩
      refine ⟨.ref a, rfl, a, _, 2, _, rfl, rfl, hs, at2, (by show 0 ≤ sizeLine; decide), fun Z nZ => ⟨(by show 2 ≤ sizeLine; decide), fun T2 nT => ?_⟩⟩
      exact q _ _ ((Ex.new nZ).trans (.new nT)) (two n H .refl Z nZ T2 nT)
    | copy b c =>
      obtain ⟨v, u, rfl, hb, hc⟩ := hx
      refine ⟨.ref a, rfl, a, _, 0, _, rfl, rfl, hs, at0, rfl, _, rfl, sN (by decide +kernel) ?_⟩
      refine ⟨.ref a, rfl, a, _, 0, _, rfl, rfl, hs, at0, rfl, _, rfl, sN (by decide +kernel) ?_⟩
      refine ⟨.ref a, rfl, a, _, 0, _, rfl, rfl, hs, at0, rfl, _, rfl, sN (by decide +kernel) ?_⟩
      refine ⟨.ref fr, rfl, fr, dx, fs, rfl, hf1, hf4, .ref a, rfl, a, _, 2, _, rfl, rfl, hs, at2, fr, _, pl, u, c, kd, Ws, n, f, rfl, hF, hD, hc, fun z hz => ?_⟩
      obtain ⟨z1, z2, rfl, hz1, hz2⟩ := wv_inv hz
      refine ⟨z1, _, rfl, hz1, rfl, _, _, rfl, _, _, rfl, rfl, ?_⟩
      refine ⟨.ref a, rfl, a, _, 0, _, rfl, rfl, hs, at0, rfl, _, rfl, sY ?_⟩
      refine ⟨.int (f c).1, rfl, .ref z2, rfl, (by show 2 ≤ sizeLine; decide), fun T2 nT => ?_⟩
      have x2 : Ex [] H (upd H T2 (.tup [.int (f c).1, .ref z2])) := .new nT
      exact q _ _ x2 (wv_mk (ws := (f c).2) (.of upd_same) (x2.seqT hz2))
    | opn b c =>
      obtain ⟨v, u, rfl, hb, hc⟩ := hx
      refine ⟨.ref a, rfl, a, _, 0, _, rfl, rfl, hs, at0, rfl, _, rfl, sN (by decide +kernel) ?_⟩
      refine ⟨.ref a, rfl, a, _, 0, _, rfl, rfl, hs, at0, rfl, _, rfl, sN (by decide +kernel) ?_⟩
      refine ⟨.ref a, rfl, a, _, 0, _, rfl, rfl, hs, at0, rfl, _, rfl, sN (by decide +kernel) ?_⟩
      refine ⟨.ref fr, rfl, fr, dx, fs, rfl, hf1, hf4, .ref a, rfl, a, _, 2, _, rfl, rfl, hs, at2, fr, _, pl, u, c, kd, Ws, n, f, rfl, hF, hD, hc, fun z hz => ?_⟩
      obtain ⟨z1, z2, rfl, hz1, hz2⟩ := wv_inv hz
      refine ⟨z1, _, rfl, hz1, rfl, _, _, rfl, _, _, rfl, rfl, ?_⟩
      refine ⟨.ref a, rfl, a, _, 0, _, rfl, rfl, hs, at0, rfl, _, rfl, sN (by decide +kernel) ?_⟩
      refine ⟨.ref a, rfl, a, _, 0, _, rfl, rfl, hs, at0, rfl, _, rfl, sY ?_⟩
      refine ⟨.int (f c).1, rfl, (f c).1, 2, rfl, rfl, (by show (0 : Int) < 2; decide), (by show 0 ≤ sizeLine; decide), fun Z nZ => ⟨(by show 2 ≤ sizeLine; decide), fun T2 nT => ?_⟩⟩
      exact q _ _ ((Ex.new nZ).trans (.new nT)) (two ((f c).1 % 2) H .refl Z nZ T2 nT)
    | mix b c d =>
      obtain ⟨v, u, v3, rfl, hb, hc, hd⟩ := hx
      refine ⟨.ref a, rfl, a, _, 0, _, rfl, rfl, hs, at0, rfl, _, rfl, sN (by decide +kernel) ?_⟩
      refine ⟨.ref a, rfl, a, _, 0, _, rfl, rfl, hs, at0, rfl, _, rfl, sN (by decide +kernel) ?_⟩
      refine ⟨.ref a, rfl, a, _, 0, _, rfl, rfl, hs, at0, rfl, _, rfl, sN (by decide +kernel) ?_⟩
      refine ⟨.ref fr, rfl, fr, dx, fs, rfl, hf1, hf4, .ref a, rfl, a, _, 2, _, rfl, rfl, hs, at2, fr, _, pl, u, c, kd, Ws, n, f, rfl, hF, hD, hc, fun z hz => ?_⟩
      obtain ⟨z1, z2, rfl, hz1, hz2⟩ := wv_inv hz
      refine ⟨z1, _, rfl, hz1, rfl, _, _, rfl, _, _, rfl, rfl, ?_⟩
      refine ⟨.ref a, rfl, a, _, 0, _, rfl, rfl, hs, at0, rfl, _, rfl, sN (by decide +kernel) ?_⟩
      refine ⟨.ref a, rfl, a, _, 0, _, rfl, rfl, hs, at0, rfl, _, rfl, sN (by decide +kernel) ?_⟩
      refine ⟨.ref fr, rfl, fr, dx, fs, rfl, hf1, hf4, .ref a, rfl, a, _, 3, _, rfl, rfl, hs, at3, fr, _, pl, v3, d, kd, Ws, n, f, rfl, hF, hD, hd, fun y hy => ?_⟩
      obtain ⟨y1, y2, rfl, hy1, hy2⟩ := wv_inv hy
      refine ⟨y1, _, rfl, hy1, rfl, _, _, rfl, _, _, rfl, rfl, ?_⟩
      obtain ⟨kvs, _, _, _, _, _, _, h7⟩ := hD
      have lc := sub_len _ Ws (h7 c).1 (h7 c).2
      have ld := sub_len _ Ws (h7 d).1 (h7 d).2
      refine ⟨.int (f c).1, rfl, .int (f d).1, rfl, 2, (f d).1, rfl, rfl, .inl ⟨by decide, by decide⟩, (f c).1, _, rfl, rfl, _, 10007, rfl, rfl, (by show (0 : Int) < 10007; decide), .ref z2, rfl, .ref y2, rfl, ?_⟩
      refine tp_cat (K := K) hz2 hy2 (TpAll.strs _) (TpAll.strs _) (by rw [List.length_map, List.length_map]; omega) fun p1 H1 zs x1 hs1 ht1 => ?_
      rw [← List.map_append] at ht1
      rw [strs_inv ht1] at hs1
      refine ⟨p1, (f c).2 ++ (f d).2, rfl, hs1, by rw [List.length_append]; omega, fun p2 n2 => ?_⟩
      have x2 : Ex [] H1 (upd H1 p2 (SetS w p2 ((f c).2 ++ (f d).2))) := .new n2
      refine ⟨p2, (f c).2 ++ (f d).2, (f c).2 ++ (f d).2, rfl, upd_same, fun x hx => hx, by rw [List.length_append]; omega, fun ys p3 s1 s2 s3 n3 => ?_⟩
      have x3 : Ex [] (upd H1 p2 (SetS w p2 ((f c).2 ++ (f d).2))) (upd (upd H1 p2 (SetS w p2 ((f c).2 ++ (f d).2))) p3 (.lst (ys.map V.str))) := .new n3
      refine ⟨p3, ys.map V.str, rfl, .inl ⟨.of upd_same, fun p4 n4 => ?_⟩⟩
      have x4 : Ex [] (upd (upd H1 p2 (SetS w p2 ((f c).2 ++ (f d).2))) p3 (.lst (ys.map V.str))) (upd (upd (upd H1 p2 (SetS w p2 ((f c).2 ++ (f d).2))) p3 (.lst (ys.map V.str))) p4 (.tup (ys.map V.str))) := .new n4
      refine ⟨(by show 2 ≤ sizeLine; decide), fun T2 nT => ?_⟩
      have eu : sortU ((f c).2 ++ (f d).2) = ys := SU.eq ⟨s1, s2, s3⟩
      refine q _ _ ((((x1.trans x2).trans x3).trans x4).trans (.new nT)) ?_
      show Tp K _ _ (wvD (((f c).1 + 2 * (f d).1) % 10007, sortU ((f c).2 ++ (f d).2)))
      rw [eu]
      exact wv_mk (.of upd_same) (.of ((Ex.new nT (xs := [])).tup upd_same))
end
end K45

namespace K45
open PySem PySem.Spec PyProof.Rows L2 Kk
abbrev s_do : Stmt := topS 31
abbrev n_do : List Str := ["now", "frame", "word", "answer", "box"]
theorem sc_do : FnScope n_do ["now", "frame", "word", "answer"] (defScope s_do) := ⟨rfl, rfl, rfl, by decide +kernel, rfl, by decide +kernel, by decide +kernel⟩
theorem pe_nv {X : Cx} {e : Expr} : PE X e (fun _ _ _ => False) := ⟨fun _ _ _ _ _ _ q => q.elim⟩
theorem eqv_q (q r : Bq) : PyData.eqv (qD q) (qD r) = decide (q = r) := by
  obtain ⟨a, m⟩ := q
  obtain ⟨c, n⟩ := r
  have e1 : (a == c) = decide (a = c) := by
    by_cases h : a = c
    · rw [h]; simp
    · rw [decide_eq_false h]
      cases z : a == c with
      | false => rfl
      | true => exact absurd (eq_of_beq z) h
  have e2 : ((m : Int) == (n : Int)) = decide (m = n) := by
    by_cases h : m = n
    · rw [h]; simp
    · rw [decide_eq_false h]
      have : ¬ (m : Int) = (n : Int) := fun z => h (by omega)
      simp [this]
  have e3 : decide ((a, m) = (c, n)) = (decide (a = c) && decide (m = n)) := by
    rw [← Bool.decide_and, decide_eq_decide]
    simp
  rw [e3]
  simp only [qD, PyData.eqv, PyData.eqvAll, e1, e2, Bool.and_true]
theorem shaped_q {q : Bq} (h : PyData.strOk q.1 = true) : SeqAt.shaped (qD q) = true := by
  unfold SeqAt.shaped qD
  have e : PyData.canLay0 (.tuple [.str q.1, .int q.2]) = true := by
    simp [PyData.canLay0, PyData.canLayAll0, h]
  rw [e]
  rfl
def isTell : Wo → Bool
  | .tell _ => true
  | _ => false
def emW : Wo → Bq → Bool
  | .wipe b, q => decide (q = b)
  | _, _ => false
def emF (f : Bq → Wv) : Wo → Bq → Wv
  | .wipe b => setF f b (0, [])
  | _ => f
noncomputable def stF (f : Bq → Wv) (ans : Int) (W : Wo) : Bq → Wv := if isPut W = true then setF f (boxW W) (valW f ans W) else emF f W
def tellW (f : Bq → Wv) : Wo → List Int
  | .tell b => [(f b).1]
  | _ => []
/-- the kinds of the boxes of a word -/
def okW (kd Ws : List Str) : Wo → Prop
  | .take b s => b.1 ∈ kd ∧ s ∈ Ws
  | .ask b => b.1 ∈ kd
  | .number b _ => b.1 ∈ kd
  | .copy b _ => b.1 ∈ kd
  | .mix b _ _ => b.1 ∈ kd
  | .opn b _ => b.1 ∈ kd
  | .tell b => b.1 ∈ kd
  | .wipe b => b.1 ∈ kd
theorem okW.box {kd Ws : List Str} {W : Wo} (h : okW kd Ws W) : (boxW W).1 ∈ kd := by cases W <;> first | exact h | exact h.1
theorem SU.ok {ws : List Str} {Ws : List Str} (h : ∀ s ∈ ws, s ∈ Ws) (ex : ∃ ys, SU ws ys) : (sortU ws).Nodup ∧ ∀ s ∈ sortU ws, s ∈ Ws := by
  obtain ⟨ys, hy⟩ := ex
  rw [SU.eq hy]
  exact ⟨hy.2.1, fun s m => h s ((hy.2.2 s).mp m)⟩
theorem bd_t {b : Bool} (h : b = true) {c : Bool} (g : c = true) : b = c := by rw [h, g]
theorem kind_in {H : Hp} {W : Wo} {xs : List V} (h : WoX H W xs) : ∃ k r, xs = .str k :: r ∧ inV (.str k) ([Str.ofString "take", Str.ofString "ask", Str.ofString "number", Str.ofString "copy", Str.ofString "mix", Str.ofString "open"].map V.str) = isPut W ∧ decide (V.str k = V.str (Str.ofString "tell")) = isTell W ∧
    decide (V.str k = V.str (Str.ofString "drop")) = false ∧ (∃ v, r.head? = some v ∧ BxT H v (boxW W)) := by
  cases W with
  | take b s => obtain ⟨v, rfl, hb⟩ := h; exact ⟨_, _, rfl, (show _ = true by decide +kernel), (show _ = false by decide +kernel), by decide +kernel, v, rfl, hb⟩
  | ask b => obtain ⟨v, rfl, hb⟩ := h; exact ⟨_, _, rfl, (show _ = true by decide +kernel), (show _ = false by decide +kernel), by decide +kernel, v, rfl, hb⟩
  | number b n => obtain ⟨v, rfl, hb⟩ := h; exact ⟨_, _, rfl, (show _ = true by decide +kernel), (show _ = false by decide +kernel), by decide +kernel, v, rfl, hb⟩
  | copy b c => obtain ⟨v, u, rfl, hb, _⟩ := h; exact ⟨_, _, rfl, (show _ = true by decide +kernel), (show _ = false by decide +kernel), by decide +kernel, v, rfl, hb⟩
  | mix b c d => obtain ⟨v, u, z, rfl, hb, _⟩ := h; exact ⟨_, _, rfl, (show _ = true by decide +kernel), (show _ = false by decide +kernel), by decide +kernel, v, rfl, hb⟩
  | opn b c => obtain ⟨v, u, rfl, hb, _⟩ := h; exact ⟨_, _, rfl, (show _ = true by decide +kernel), (show _ = false by decide +kernel), by decide +kernel, v, rfl, hb⟩
  | tell b => obtain ⟨v, rfl, hb⟩ := h; exact ⟨_, _, rfl, (show _ = false by decide +kernel), (show _ = true by decide +kernel), by decide +kernel, v, rfl, hb⟩
  | wipe b => obtain ⟨v, rfl, hb⟩ := h; exact ⟨_, _, rfl, (show _ = false by decide +kernel), (show _ = false by decide +kernel), by decide +kernel, v, rfl, hb⟩
section
variable {P : Program} {w : World} {K : PySem.W.Frag} {mg : Str → Option Value} {base : Heap}
def spEmpties (K : PySem.W.Frag) : Sp := fun vs H Q _ => ∃ (v u : V) (W : Wo) (q : Bq), vs = [v, u] ∧ WoH K H v W ∧ BxT H u q ∧ PyData.strOk q.1 = true ∧ PyData.strOk (boxW W).1 = true ∧ Q (.bl (emW W q)) H
theorem ok_empties {f : Addr} {fd : FuncData} {k : Nat} (F : Fun K "empties" "empties" s_empties f fd) : FnOk P w K mg base CX0 (k + 1) f fd ["word", "box"] (spEmpties K) := by
  refine F.ok sc_empties (fun vs H Q E h => ?_) (fun cdv A outer s H vs Q E hr h => ?_)
  · obtain ⟨v, u, W, q, rfl, _⟩ := h; rfl
  · obtain ⟨v, u, W, bq, rfl, ⟨a, xs, rfl, hs, hx⟩, ⟨t, rfl, ht⟩, o1, o2, q⟩ := h
    refine ⟨_, pss_cons (ps_if (pt_cmpR op_eq (pe_ix ix_tup (pv 0) pe_int (fun _ _ => rfl)) pe_str (nomark _)) (pss_one (ps_ret (pe_cmpR (op_eqD hr.units) (pv 1) (pe_ix ix_tup (pv 0) pe_int (fun _ _ => rfl)) (nomark _)))) pss_nil)
      (pss_cons (ps_if (pt_cmpR op_eq (pe_ix ix_tup (pv 0) pe_int (fun _ _ => rfl)) pe_str (nomark _)) (pss_one ps_nv) pss_nil)
      (pss_one (ps_ret (pe_and (pe_cmpR op_eq (pe_ix ix_tup (pv 0) pe_int (fun _ _ => rfl)) pe_str (nomark _)) (pe_one pe_nv))))), ?_⟩
    have dq : ∀ {v : V} {q : Bq}, BxT H v q → Dp K H v (qD q) := fun ⟨t, e, h⟩ => by
      rw [e]; exact .tup (.of h) (.cons (.str _) (.cons (.int _) .nil))
    have oth : ∀ (kk : Str) (r : List V), xs = .str kk :: r → ¬ kk = Str.ofString "wipe" → ¬ kk = Str.ofString "clear" → ¬ kk = Str.ofString "drop" → emW W bq = false → (∃ k r, xs = V.str k :: r ∧ ¬ k = Str.ofString "wipe" ∧ ¬ k = Str.ofString "clear" ∧ ¬ k = Str.ofString "drop" ∧ emW W bq = false) := fun kk r e a b c d => ⟨kk, r, e, a, b, c, d⟩
    have fin : (∃ k r, xs = V.str k :: r ∧ ¬ k = Str.ofString "wipe" ∧ ¬ k = Str.ofString "clear" ∧ ¬ k = Str.ofString "drop" ∧ emW W bq = false) ∨ ∃ b v, W = .wipe b ∧ xs = [.str (Str.ofString "wipe"), v] ∧ BxT H v b := by
      cases W with
      | take b s => obtain ⟨v, rfl, hb⟩ := hx; exact .inl (oth _ _ rfl (by decide +kernel) (by decide +kernel) (by decide +kernel) rfl)
      | ask b => obtain ⟨v, rfl, hb⟩ := hx; exact .inl (oth _ _ rfl (by decide +kernel) (by decide +kernel) (by decide +kernel) rfl)
      | number b n => obtain ⟨v, rfl, hb⟩ := hx; exact .inl (oth _ _ rfl (by decide +kernel) (by decide +kernel) (by decide +kernel) rfl)
      | copy b c => obtain ⟨v, u, rfl, hb, _⟩ := hx; exact .inl (oth _ _ rfl (by decide +kernel) (by decide +kernel) (by decide +kernel) rfl)
      | mix b c d => obtain ⟨v, u, z, rfl, hb, _⟩ := hx; exact .inl (oth _ _ rfl (by decide +kernel) (by decide +kernel) (by decide +kernel) rfl)
      | opn b c => obtain ⟨v, u, rfl, hb, _⟩ := hx; exact .inl (oth _ _ rfl (by decide +kernel) (by decide +kernel) (by decide +kernel) rfl)
      | tell b => obtain ⟨v, rfl, hb⟩ := hx; exact .inl (oth _ _ rfl (by decide +kernel) (by decide +kernel) (by decide +kernel) rfl)
      | wipe b => obtain ⟨v, rfl, hb⟩ := hx; exact .inr ⟨b, v, rfl, rfl, hb⟩
    rcases fin with ⟨kk, r, rfl, n1, n2, n3, e⟩ | ⟨b, v, rfl, rfl, hb⟩
    · rw [e] at q
      refine ⟨.ref a, rfl, a, _, 0, _, rfl, rfl, hs, at0, rfl, _, rfl, sN n1 ⟨.ref a, rfl, a, _, 0, _, rfl, rfl, hs, at0, rfl, _, rfl, sN n2 ⟨.ref a, rfl, a, _, 0, _, rfl, rfl, hs, at0, rfl, _, rfl, sN n3 ?_⟩⟩⟩
      exact q
    · refine ⟨.ref a, rfl, a, _, 0, _, rfl, rfl, hs, at0, rfl, _, rfl, sY ?_⟩
      refine ⟨.ref t, rfl, .ref a, rfl, a, _, 1, _, rfl, rfl, hs, at1, qD bq, qD b, dq ⟨t, rfl, ht⟩, dq hb, shaped_q o1, shaped_q o2, ?_⟩
      rw [eqv_q]; exact q
theorem pr_at {α β : Type} {F : α → β → Prop} : ∀ {l : List α} {m : List β} {i : Nat} {a : α}, Paired F l m → l[i]? = some a → ∃ b, m[i]? = some b ∧ F a b
  | [], _, i, a, _, h => by simp at h
  | x :: l, _, 0, a, .cons r _, h => by cases h; exact ⟨_, rfl, r⟩
  | x :: l, _, i + 1, a, .cons _ t, h => by
    obtain ⟨b, h1, h2⟩ := pr_at (i := i) t (by simpa using h)
    exact ⟨b, by simpa using h1, h2⟩
def keysOf (kvs : List (List Key × V)) : List (List Key) := kvs.map (·.1)
open Classical in
noncomputable def wipeI (f : Bq → Wv) (W : Wo) (kl : List (List Key)) : Bq → Wv := fun r => if emW W r = true ∧ qK r ∈ kl then (0, []) else f r
/-- the last of it: what is emptied -/
def tLoop (K : PySem.W.Frag) (CF : Addr) : TS := fun D σ H => ∃ (nw : V) (fr b : Addr) (pl wv ans : V) (z4 : Option V) (W : Wo) (kd Ws : List Str) (n : Nat) (f : Bq → Wv), σ = [some nw, some (.ref fr), some wv, some ans, z4] ∧ WoH K H wv W ∧ FrH CF H fr b pl ∧ Hd K H b kd Ws n f ∧ n ≤ 1000 ∧ (∀ s ∈ kd, PyData.strOk s = true) ∧ (boxW W).1 ∈ kd ∧ fr ≠ b ∧
  ∀ H' z4', Ex [b] H H' → Hd K H' b kd Ws n (emF f W) → D.nx [some nw, some (.ref fr), some wv, some ans, z4'] H'
theorem putK_len {κ : Type} [DecidableEq κ] {kvs : List (κ × V)} {k : κ} {v : V} (h : k ∈ kvs.map (·.1)) : (putK kvs k v).length = kvs.length := by
  have := congrArg List.length (putK_keys kvs k v)
  rw [if_pos h, List.length_map, List.length_map] at this
  exact this
theorem emF_id {f : Bq → Wv} {W : Wo} (h : ∀ q, emW W q = true → f q = (0, [])) : emF f W = f := by
  cases W with
  | wipe b =>
    funext r
    show setF f b (0, []) r = f r
    unfold setF
    split
    · rename_i e
      rw [e, h b (by show decide (b = b) = true; simp)]
    · rfl
  | _ => rfl
theorem emF_at {f : Bq → Wv} {W : Wo} {q : Bq} : emF f W q = if emW W q = true then (0, []) else f q := by
  cases W with
  | wipe b =>
    show setF f b (0, []) q = if decide (q = b) = true then _ else _
    unfold setF
    by_cases e : q = b
    · rw [if_pos e, if_pos (decide_eq_true e)]
    · rw [if_neg e, if_neg (by simp [e])]
  | _ => rfl
def spDo (K : PySem.W.Frag) (CF CR : Addr) : Sp := fun vs H Q _ => ∃ (nw fr b tl : Addr) (pl wv : V) (ans : Int) (W : Wo) (kd Ws : List Str) (n : Nat) (f : Bq → Wv) (told : List Int), vs = [.ref nw, .ref fr, wv, .int ans] ∧
  (∃ dx fs, H nw = some (.ins CR dx fs) ∧ fs.lookup ("told" : Str) = some (.ref tl)) ∧ H tl = some (.lst (told.map V.int)) ∧ told.length ≤ 1000 ∧ WoH K H wv W ∧ okW kd Ws W ∧ FrH CF H fr b pl ∧ Hd K H b kd Ws n f ∧ n ≤ 900 ∧ Ws.length ≤ 20 ∧ (∀ s ∈ kd, PyData.strOk s = true) ∧
  ∀ H', Ex [b, tl] H H' → Hd K H' b kd Ws (n + 1) (stF f ans W) → H' tl = some (.lst ((told ++ tellW f W).map V.int)) → Q .non H'
theorem ok_do {f CF CR fH f1 f2 nA eA pA : Addr} {fd fdH d1 d2 : FuncData} {k : Nat} (F : Fun K "do_boxes" "do_boxes" s_do f fd) (T : TF K mg CF) (N : Nth K mg nA eA) (GH : FnOk P w K mg base CX0 k fH fdH ["self", "box"] (spHolds K CF)) (mH : Meth K CF "holds" fH) (bH : Binds K fdH ["self", "box"] [])
    (C_put : Cl P w K mg base k "put_by" ["word", "frame", "answer"] (spPut K CF) f1 d1) (C_em : Cl P w K mg base k "empties" ["word", "box"] (spEmpties K) f2 d2) (clR : Cls K CR) (nT : NoAttr K CR "told")
    (g_P : mg "PUTTING" = some (.ref pA)) (tP : ∀ H, SqT K H pA ([Str.ofString "take", Str.ofString "ask", Str.ofString "number", Str.ofString "copy", Str.ofString "mix", Str.ofString "open"].map V.str)) (m_list : mg "list" = none) :
    FnOk P w K mg base CX0 (k + 1) f fd ["now", "frame", "word", "answer"] (spDo K CF CR) := by
  refine F.ok sc_do (fun vs H Q E h => ?_) (fun cdv A outer s H vs Q E hr h => ?_)
  · obtain ⟨nw, fr, b, tl, pl, wv, ans, W, kd, Ws, n, f, told, rfl, _⟩ := h; rfl
  · obtain ⟨nw, fr, b, tl, pl, wv, ans, W, kd, Ws, n, f, told, rfl, ⟨dR, fR, hR, hRt⟩, htl, hto, hW, okw, hF, hD, hn, hWs, hkd, q⟩ := h
    refine ⟨_, (pss_cons (ps_if (pt_cmpR op_in_seq (pe_ix ix_tup (pv 2) pe_int (fun _ _ => rfl)) (pe_glob (v := .ref pA) rfl g_P rfl) rfl) (pss_one (ps_dput (hu_of hr) (pe_fld (pv 1) rfl) (pe_ix ix_tup (pv 2) pe_int (fun _ _ => rfl)) (pe_call C_put.g hr (by rfl) C_put.m C_put.k C_put.b .nil pass0 (pa_cons (pv 2) (pa_cons (pv 1) (pa_cons (pv 3) pa_nil)))) rfl)) pss_nil)
      (pss_cons (ps_if (pt_cmpR op_eq (pe_ix ix_tup (pv 2) pe_int (fun _ _ => rfl)) pe_str (nomark _)) (pss_one (ps_expr (pe_bm PySem.F.plainAttrs_list PySem.F.slot_list_append PySem.F.type_list_append mt_append (pe_fld (pv 0) rfl) (pa_cons (pe_ix ix_tup (pe_meth (pv 1) T.cl mH GH hr bH .nil pass0 (pa_cons (pe_ix ix_tup (pv 2) pe_int (fun _ _ => rfl)) pa_nil)) pe_int (fun _ _ => rfl)) pa_nil)))) pss_nil)
      (pss_cons (ps_if (pt_cmpR op_eq (pe_ix ix_tup (pv 2) pe_int (fun _ _ => rfl)) pe_str (nomark _)) (pss_one ps_nv) pss_nil)
      (pss_one (PS.by (t' := tLoop K CF) (ps_for PassesOwn.never rfl (pi_list (pe_callTy (call_list_dT rfl) (by rfl) m_list (by decide +kernel) (pa_cons (pe_fld (pv 1) rfl) pa_nil))) (pg_name (i := 4) sc_do.nd rfl (.inl rfl)) (pss_one (ps_if (pt_val (pe_call C_em.g hr (by rfl) C_em.m C_em.k C_em.b .nil pass0 (pa_cons (pv 2) (pa_cons (pv 4) pa_nil)))) (pss_one (ps_dput (hu_of hr) (pe_fld (pv 1) rfl) (pv 4) (pe_glob (v := .ref nA) rfl N.m rfl) rfl)) pss_nil))) (by
        rintro D σ H ⟨nw, fr, b, pl, wv, ans, z4, W, kd, Ws, n, f, rfl, hW, hF, hD, hn, hkd, hbk, frb, q⟩
        obtain ⟨dx, fs, hf1, hf2, hf3, hf4, hf5⟩ := id hF
        obtain ⟨kvs, k1, k2, k3, k4, k5, k6, k7⟩ := id hD
        refine ⟨.ref fr, rfl, fr, CF, dx, fs, .ref b, rfl, hf1, T.cl, T.nB, hf2, b, kvs, rfl, .inl k1, fun L bs nL ik => ?_⟩
        have xL : Ex [] H (upd H L (.lst (bs.map V.ref))) := .new nL
        have bl : bs.length = kvs.length := (Paired.length ik).symm
        have Lb : L ≠ b := fun z => by rw [z, k1] at nL; cases nL
        have Lfr : L ≠ fr := fun z => by rw [z, hf1] at nL; cases nL
        have key : ∀ i (x : V), (bs.map V.ref)[i]? = some x → ∃ bq : Bq, BxT H x bq ∧ (keysOf kvs)[i]? = some (qK bq) ∧ bq.1 ∈ kd := fun i x hx => by
          rw [List.getElem?_map] at hx
          cases hb : bs[i]? with
          | none => rw [hb] at hx; cases hx
          | some t =>
            rw [hb] at hx
            cases hx
            have il : i < kvs.length := by rw [← bl]; exact (List.getElem?_eq_some_iff.mp hb).1
            have hk := List.getElem?_eq_getElem il
            obtain ⟨bq, e1, e2⟩ := k4 _ (List.getElem_mem il)
            obtain ⟨t', ht', hh⟩ := pr_at ik hk
            rw [hb] at ht'
            cases ht'
            rw [e1] at hh
            exact ⟨bq, ⟨t, rfl, hh⟩, by unfold keysOf; rw [List.getElem?_map, hk, ← e1]; rfl, e2⟩
        refine ⟨L, rfl, ⟨_, .of upd_same⟩, for_list (a := L) (xs := bs.map V.ref) (fun i σ H2 => ∃ z4', σ = [some nw, some (.ref fr), some wv, some ans, z4'] ∧ Ex [b] (upd H L (.lst (bs.map V.ref))) H2 ∧ H2 L = some (.lst (bs.map V.ref)) ∧ ∃ kvs2, H2 b = some (.dT kvs2) ∧ keysOf kvs2 = keysOf kvs ∧
          Hd K H2 b kd Ws n (wipeI f W ((keysOf kvs).take i))) ?_ ?_ ?_ ?_⟩
        · refine ⟨_, rfl, .refl, upd_same, kvs, xL.a b _ (by simp) k1 (fun _ z => by cases z), rfl, ?_⟩
          have ef : (wipeI f W ((keysOf kvs).take 0)) = f := by
            funext r
            unfold wipeI
            rw [if_neg (by simp)]
          rw [ef]
          exact hD.ex xL (by simp)
        · rintro i σ H2 _ ⟨z, _, _, hL, _⟩
          exact .of hL
        · rintro i x σ H2 hx ⟨z4', rfl, x2, hL2, kvs2, hb2, ek2, hD2⟩
          obtain ⟨bq, hbx, hkey, hbk2⟩ := key i x hx
          have x02 : Ex [b] H H2 := (xL.mono (by simp)).trans x2
          have hbx2 := hbx.ex x02
          have tk : (keysOf kvs).take (i + 1) = (keysOf kvs).take i ++ [qK bq] := by rw [List.take_add_one, hkey]; rfl
          have hq1 : (keysOf kvs).take (i + 1) = (keysOf kvs).take i ++ [qK bq] := tk
          refine ⟨wv, rfl, x, rfl, wv, x, W, bq, rfl, hW.ex x02, hbx2, hkd _ hbk2, hkd _ hbk, _, rfl, ite2 (fun e => ?_) fun e => ?_⟩
          · obtain ⟨t, rfl, ht⟩ := hbx2
            have hF2 := hF.ex x02 (by simpa using frb)
            obtain ⟨dx2, fs2, g1, g2, _⟩ := hF2
            have len2 : kvs2.length < sizeLine := by
              have : kvs2.length = kvs.length := by
                have := congrArg List.length ek2
                simpa [keysOf] using this
              rw [this, sizeLine_eq]; omega
            refine ⟨.ref fr, rfl, fr, CF, dx2, fs2, .ref b, rfl, g1, T.cl, T.nB, g2, .ref t, rfl, b, _, rfl, .inr ⟨kvs2, qK bq, t, hb2, rfl, ht, len2, rfl⟩, ?_⟩
            have mk : qK bq ∈ keysOf kvs2 := by rw [ek2]; exact List.mem_of_getElem? hkey
            obtain ⟨kvs3, k1', k2', k3', k4', k5', k6', k7'⟩ := hD2
            rw [hb2] at k1'
            cases k1'
            have x3 : Ex [b] H2 (upd H2 b (.dT (putK kvs2 (qK bq) (.ref nA)))) := .put hb2 (fun _ z => by cases z) (by simp)
            have hp := Hd.put (x := (0, [])) hb2 k2' k3' k4' k5' k6' k7' hbk2 (N.tp H2) ⟨by simp, fun s m => by cases m⟩
            obtain ⟨kvs4, p1, p2, p3, p4, p5, p6, p7⟩ := hp
            rw [upd_same] at p1
            cases p1
            refine ⟨_, rfl, x2.trans x3, x3.lst hL2 (by simpa using Lb), _, upd_same, by unfold keysOf at mk ek2 ⊢; rw [putK_keys, if_pos mk]; exact ek2, ?_⟩
            have ef : (wipeI f W ((keysOf kvs).take (i + 1))) = setF (wipeI f W ((keysOf kvs).take i)) bq (0, []) := by
              funext r
              unfold setF wipeI
              rw [tk]
              by_cases er : r = bq
              · rw [if_pos er, if_pos ⟨by rw [er]; exact e, by rw [er]; simp⟩]
              · rw [if_neg er]
                have : (qK r ∈ (keysOf kvs).take i ++ [qK bq]) ↔ (qK r ∈ (keysOf kvs).take i) := by
                  rw [List.mem_append, List.mem_singleton]
                  exact ⟨fun z => z.elim id fun y => absurd (qK_inj y) er, .inl⟩
                rw [this]
            rw [ef]
            exact ⟨_, upd_same, by rw [putK_len mk]; exact k2', p3, p4, p5, p6, p7⟩
          · refine ⟨_, rfl, x2, hL2, kvs2, hb2, ek2, ?_⟩
            have ef : (wipeI f W ((keysOf kvs).take (i + 1))) = (wipeI f W ((keysOf kvs).take i)) := by
              funext r
              unfold wipeI
              rw [tk]
              by_cases er : r = bq
              · rw [er, if_neg fun z => e z.1, if_neg fun z => e z.1]
              · have : (qK r ∈ (keysOf kvs).take i ++ [qK bq]) ↔ (qK r ∈ (keysOf kvs).take i) := by
                  rw [List.mem_append, List.mem_singleton]
                  exact ⟨fun z => z.elim id fun y => absurd (qK_inj y) er, .inl⟩
                rw [this]
            rw [ef]; exact hD2
        · rintro σ H2 ⟨z4', rfl, x2, hL2, kvs2, hb2, ek2, hD2⟩
          refine q H2 z4' ((xL.mono (by simp)).trans x2) ?_
          have ef : (wipeI f W ((keysOf kvs).take (bs.map V.ref).length)) = emF f W := by
            funext r
            unfold wipeI
            rw [emF_at]
            have et : (keysOf kvs).take (bs.map V.ref).length = keysOf kvs := by
              rw [List.length_map, bl]
              exact List.take_of_length_le (by unfold keysOf; rw [List.length_map]; exact Nat.le_refl _)
            rw [et]
            by_cases e1 : emW W r = true
            · rw [if_pos e1]
              by_cases e2 : qK r ∈ keysOf kvs
              · rw [if_pos ⟨e1, e2⟩]
              · rw [if_neg fun z => e2 z.2]
                refine k6 r ?_
                unfold valV
                have : kvs.find? (fun kv => decide (kv.1 = qK r)) = none := by
                  rw [List.find?_eq_none]
                  intro p hp z
                  exact e2 (List.mem_map.mpr ⟨p, hp, of_decide_eq_true z⟩)
                rw [this]; rfl
            · rw [if_neg e1, if_neg fun z => e1 z.1]
          rw [← ef]; exact hD2)))))), ?_⟩
    obtain ⟨a, xs, rfl, hs, hx⟩ := id hW
    obtain ⟨kd0, r0, rfl, e1, e2, e3, v0, hv0, hbx0⟩ := kind_in hx
    obtain ⟨dx, fs, hf1, hf2, hf3, hf4, hf5⟩ := id hF
    obtain ⟨kvs, k1, k2, k3, k4, k5, k6, k7⟩ := id hD
    have frb : fr ≠ b := ne_of hf1 k1 (by intro z; cases z)
    have btl : tl ≠ b := ne_of htl k1 (by intro z; cases z)
    have nwb : nw ≠ b := ne_of hR k1 (by intro z; cases z)
    have frtl : fr ≠ tl := ne_of hf1 htl (by intro z; cases z)
    have r1 : ∃ r', r0 = v0 :: r' := by
      cases r0 with
      | nil => cases hv0
      | cons x r' => cases hv0; exact ⟨r', rfl⟩
    obtain ⟨r', rfl⟩ := r1
    have hb1 := okw.box
    obtain ⟨t0, rfl, ht0⟩ := hbx0
    have flat : ([Str.ofString "take", Str.ofString "ask", Str.ofString "number", Str.ofString "copy", Str.ofString "mix", Str.ofString "open"].map V.str).all flatV = true := by decide +kernel
    have nodrop : ∀ {A B : Prop}, B → if decide (V.str kd0 = V.str (Str.ofString "drop")) = true then A else B := fun x => by
      rw [e3, if_neg (by decide)]; exact x
    have notell : isTell W = false → ∀ {A B : Prop}, B → if decide (V.str kd0 = V.str (Str.ofString "tell")) = true then A else B := fun e A B x => by
      rw [e2, e, if_neg (by decide)]; exact x
    have dotell : isTell W = true → ∀ {A B : Prop}, A → if decide (V.str kd0 = V.str (Str.ofString "tell")) = true then A else B := fun e A B x => by
      rw [e2, e, if_pos rfl]; exact x
    refine ⟨.ref a, rfl, a, _, 0, .str kd0, rfl, rfl, hs, at0, pA, _, rfl, .inr (tP H), rfl, flat, _, rfl, ?_⟩
    cases hp : isPut W with
    | true =>
      have nt : isTell W = false := by cases W <;> first | rfl | cases hp
      have em : ∀ g : Bq → Wv, emF g W = g := fun g => by cases W <;> first | rfl | cases hp
      have tw : tellW f W = [] := by cases W <;> first | rfl | cases hp
      rw [hp] at e1
      show if inV _ _ = true then _ else _
      rw [e1, if_pos rfl]
      refine ⟨.ref a, rfl, .ref fr, rfl, .int ans, rfl, fr, b, pl, .ref a, W, ans, kd, Ws, n, f, rfl, hW, hp, hF, hD, hWs, fun H1 u x1 tu => ?_⟩
      have k1' := x1.a b _ (by simp) k1 (fun _ z => by cases z)
      have len1 : kvs.length < sizeLine := by rw [sizeLine_eq]; omega
      refine ⟨.ref fr, rfl, fr, CF, dx, fs, .ref b, rfl, x1.a fr _ (by simp) hf1 (fun _ z => by cases z), T.cl, T.nB, hf2, .ref a, rfl, a, _, 1, .ref t0, rfl, rfl, x1.seqT hs, at1, b, _, rfl, .inr ⟨kvs, qK (boxW W), t0, k1', rfl, x1.tup ht0, len1, rfl⟩, ?_⟩
      have x2 : Ex [b] H1 (upd H1 b (.dT (putK kvs (qK (boxW W)) u))) := .put k1' (fun _ z => by cases z) (by simp)
      have vok : (valW f ans W).2.Nodup ∧ ∀ s ∈ (valW f ans W).2, s ∈ Ws := by
        cases W with
        | take b s => exact ⟨by simp [valW], fun s' m => by rw [List.mem_singleton.mp m]; exact okw.2⟩
        | ask b => exact ⟨by simp [valW], fun s' m => by cases m⟩
        | number b n => exact ⟨by simp [valW], fun s' m => by cases m⟩
        | copy b c => exact k7 c
        | opn b c => exact ⟨by simp [valW], fun s' m => by cases m⟩
        | tell b => cases hp
        | wipe b => cases hp
        | mix b c d =>
          refine SU.ok (fun s' m => ?_) ?_
          · rcases List.mem_append.mp m with m | m
            · exact (k7 c).2 s' m
            · exact (k7 d).2 s' m
          · exact su_ex _
      have hD2 := Hd.put k1' k2 k3 k4 (fun q v hv => (k5 q v hv).ex x1) k6 k7 hb1 tu vok
      have x12 : Ex [b] H (upd H1 b (.dT (putK kvs (qK (boxW W)) u))) := (x1.mono (by simp)).trans x2
      refine ⟨.ref a, rfl, a, _, 0, .str kd0, rfl, rfl, x12.seqT hs, at0, rfl, _, rfl, notell nt ?_⟩
      refine ⟨.ref a, rfl, a, _, 0, .str kd0, rfl, rfl, x12.seqT hs, at0, rfl, _, rfl, nodrop ?_⟩
      refine ⟨.ref nw, fr, b, pl, .ref a, .int ans, none, W, kd, Ws, n + 1, _, rfl, hW.ex x12, hF.ex x12 (by simpa using frb), hD2, by omega, hkd, hb1, frb, fun H' z4' x' hD' => ?_⟩
      rw [em] at hD'
      have x3 := x12.trans x'
      refine q H' (x3.mono (by simp)) ?_ ?_
      · unfold stF
        rw [if_pos hp]; exact hD'
      · rw [tw, List.append_nil]
        exact x3.lst htl (by simpa using btl)
    | false =>
      rw [hp] at e1
      show if inV _ _ = true then _ else _
      rw [e1, if_neg (by decide)]
      have sf : stF f ans W = emF f W := by
        unfold stF
        rw [if_neg (by rw [hp]; decide)]
      cases ht : isTell W with
      | true =>
        have em : emF f W = f := by cases W <;> first | rfl | cases ht
        have tw : tellW f W = [(f (boxW W)).1] := by cases W <;> first | rfl | cases ht
        refine ⟨.ref a, rfl, a, _, 0, .str kd0, rfl, rfl, hs, at0, rfl, _, rfl, dotell ht ?_⟩
        refine ⟨.ref nw, rfl, nw, CR, dR, fR, .ref tl, rfl, hR, clR, nT, hRt, .inl ⟨rfl, _, .of htl⟩, .ref fr, rfl, fr, dx, fs, rfl, hf1, hf4, .ref a, rfl, a, _, 1, .ref t0, rfl, rfl, hs, at1, fr, b, pl, .ref t0, boxW W, kd, Ws, n, f, rfl, hF, hD, ⟨t0, rfl, ht0⟩, fun z hz => ?_⟩
        obtain ⟨z1, z2, rfl, hz1, hz2⟩ := wv_inv hz
        refine ⟨z1, _, 0, .int (f (boxW W)).1, rfl, rfl, hz1, at0, tl, _, _, rfl, rfl, htl, by rw [List.length_map, sizeLine_eq]; omega, ?_⟩
        have x2 : Ex [tl] H (upd H tl (.lst (told.map V.int ++ [.int (f (boxW W)).1]))) := .put htl nt_lst (by simp)
        refine ⟨.ref a, rfl, a, _, 0, .str kd0, rfl, rfl, x2.seqT hs, at0, rfl, _, rfl, nodrop ?_⟩
        refine ⟨.ref nw, fr, b, pl, .ref a, .int ans, none, W, kd, Ws, n, f, rfl, hW.ex x2, hF.ex x2 (by simpa using frtl), hD.ex x2 (by simpa using btl.symm), by omega, hkd, hb1, frb, fun H' z4' x' hD' => ?_⟩
        rw [← sf] at hD'
        refine q H' ((x2.mono (by simp)).trans (x'.mono (by simp))) (hD'.mono (by omega)) ?_
        rw [x'.lst upd_same (by simpa using btl), tw, List.map_append]; rfl
      | false =>
        have tw : tellW f W = [] := by cases W <;> first | rfl | cases ht
        refine ⟨.ref a, rfl, a, _, 0, .str kd0, rfl, rfl, hs, at0, rfl, _, rfl, notell ht ?_⟩
        refine ⟨.ref a, rfl, a, _, 0, .str kd0, rfl, rfl, hs, at0, rfl, _, rfl, nodrop ?_⟩
        refine ⟨.ref nw, fr, b, pl, .ref a, .int ans, none, W, kd, Ws, n, f, rfl, hW, hF, hD, by omega, hkd, hb1, frb, fun H' z4' x' hD' => ?_⟩
        rw [← sf] at hD'
        refine q H' (x'.mono (by simp)) (hD'.mono (by omega)) ?_
        rw [tw, List.append_nil]
        exact x'.lst htl (by simpa using btl)
end
end K45

namespace Kk
open PySem PySem.Spec PyProof.Rows L2
/-! within a comprehension: the written part is the def's own -/
theorem pe_fldK {X : Cx} {K : PySem.W.Frag} {e : Expr} {f : Str} {pos : Pos} {ta : TE} (hK : X.K = K) (he : PE X e ta) (hb : attributeBase e f X.env (eval e X.env) = eval e X.env) : PE X (.Attribute e f pos) (tFld K ta f) := by subst hK; exact pe_fld he hb
theorem op_catB {X : Cx} {K : PySem.W.Frag} (h : X.K = K) : OpR X (binaryOp .Add) (rCatA K) := by subst h; exact op_catA
theorem op_neDK {X : Cx} {K : PySem.W.Frag} (h : X.K = K) (hu : X.A.units + 64 < cLine) : OpR X (compareOp .NotEq) (rNeD K) := by subst h; exact op_neD hu
theorem sl_tupK {X : Cx} {K : PySem.W.Frag} (h : X.K = K) : SlR X (rSlA K) := by subst h; exact sl_tupA
theorem cut1 {x : V} {xs : List V} : cutV (x :: xs) (some 1) none = xs := by
  unfold cutV
  have e1 : HT.sIx (x :: xs).length 0 (some 1) = 1 := by
    show (if (1 : Int) < 0 then ((1 : Int) + ((x :: xs).length : Int)).toNat else min (1 : Int).toNat (x :: xs).length) = 1
    rw [if_neg (by decide), List.length_cons]; show min 1 (xs.length + 1) = 1; omega
  rw [e1, HT.sIx_none]
  show xs.take ((x :: xs).length - 1) = xs
  rw [List.length_cons, Nat.add_sub_cancel, List.take_length]
theorem cut1n {x : V} {xs : List V} : ¬ (HT.sIx (x :: xs).length 0 (some 1) = 0 ∧ HT.sIx (x :: xs).length (x :: xs).length none = (x :: xs).length) := fun ⟨h, _⟩ => by
  have e1 : HT.sIx (x :: xs).length 0 (some 1) = 1 := by
    show (if (1 : Int) < 0 then ((1 : Int) + ((x :: xs).length : Int)).toNat else min (1 : Int).toNat (x :: xs).length) = 1
    rw [if_neg (by decide), List.length_cons]; show min 1 (xs.length + 1) = 1; omega
  rw [e1] at h; cases h
end Kk
namespace K45
open PySem PySem.Spec PyProof.Rows L2 Kk
abbrev s_held : Stmt := inClass (topS 28) 2
abbrev n_held : List Str := ["self", "found", "box", "one"]
theorem sc_held : FnScope n_held ["self"] (defScope s_held) := ⟨rfl, rfl, rfl, by decide +kernel, rfl, by decide +kernel, by decide +kernel⟩
def gQ (q : Bq) : Str × List Nat := (q.1, [q.2])
def hQ (x : Str × List Nat) : Bq := (x.1, x.2.headD 0)
theorem hg (q : Bq) : hQ (gQ q) = q := rfl
def leB (p q : Bq) : Prop := leQ (gQ p) (gQ q)
theorem leB_anti {p q : Bq} (h : leB p q) (g : leB q p) : p = q := by
  have := congrArg hQ (leQ_anti h g)
  exact this
theorem keys_bq : ∀ {kvs : List (List Key × V)} {kd : List Str}, (∀ kv ∈ kvs, ∃ q : Bq, kv.1 = qK q ∧ q.1 ∈ kd) → ∃ bqs : List Bq, kvs.map (·.1) = bqs.map qK ∧ ∀ q ∈ bqs, q.1 ∈ kd
  | [], _, _ => ⟨[], rfl, fun q m => by cases m⟩
  | kv :: kvs, kd, h => by
    obtain ⟨bqs, e1, e2⟩ := keys_bq (kvs := kvs) (kd := kd) fun x m => h x (List.mem_cons_of_mem _ m)
    obtain ⟨q, e3, e4⟩ := h kv List.mem_cons_self
    refine ⟨q :: bqs, by rw [List.map_cons, List.map_cons, e3, e1], fun r m => ?_⟩
    rcases List.mem_cons.mp m with z | z
    · rw [z]; exact e4
    · exact e2 r z
theorem keys_p2 {H : Hp} : ∀ {kvs : List (List Key × V)} {bs : List Addr} {bqs : List Bq}, IsKeys H kvs bs → kvs.map (·.1) = bqs.map qK → P2 (PlQ H) (bs.map V.ref) (bqs.map gQ)
  | [], _, [], .nil, _ => .nil
  | [], _, _ :: _, _, e => by cases e
  | kv :: kvs, _, [], _, e => by cases e
  | kv :: kvs, _, q :: bqs, .cons r t, e => by
    rw [List.map_cons, List.map_cons] at e
    obtain ⟨e1, e2⟩ := List.cons.inj e
    rw [List.map_cons, List.map_cons]
    refine .cons ⟨_, rfl, ?_⟩ (keys_p2 t e2)
    rw [r, e1]; rfl
theorem perm_g {qs : List (Str × List Nat)} {bqs : List Bq} (h : qs.Perm (bqs.map gQ)) : ∃ ps : List Bq, qs = ps.map gQ ∧ ps.Perm bqs := by
  refine ⟨qs.map hQ, ?_, ?_⟩
  · rw [List.map_map]
    have : ∀ x ∈ qs, (gQ ∘ hQ) x = x := fun x m => by
      obtain ⟨q, _, e⟩ := List.mem_map.mp (h.mem_iff.mp m)
      rw [← e]; rfl
    rw [List.map_congr_left this, List.map_id']
  · have := h.map hQ
    rw [List.map_map] at this
    have e : bqs.map (hQ ∘ gQ) = bqs := by
      have : ∀ x ∈ bqs, (hQ ∘ gQ) x = x := fun x _ => rfl
      rw [List.map_congr_left this, List.map_id']
    rw [e] at this; exact this
def oneD (f : Bq → Wv) (q : Bq) : PyData := .tuple [qD q, .int (f q).1, .tuple ((f q).2.map .str)]
theorem shaped_wv {x : Wv} (h : ∀ s ∈ x.2, PyData.strOk s = true) : SeqAt.shaped (wvD x) = true := by
  have e : ∀ l : List Str, (∀ s ∈ l, PyData.strOk s = true) → PyData.canLayAll0 (l.map PyData.str) = true := by
    intro l
    induction l with
    | nil => intro _; rfl
    | cons a l ih =>
      intro h
      show (PyData.canLay0 (.str a) && PyData.canLayAll0 (l.map .str)) = true
      rw [show PyData.canLay0 (.str a) = PyData.strOk a from rfl, h a List.mem_cons_self, ih fun s m => h s (List.mem_cons_of_mem _ m)]; rfl
  have d : ∀ l : List Str, PyData.depthAll (l.map PyData.str) ≤ 1 := by
    intro l
    induction l with
    | nil => exact Nat.zero_le _
    | cons a l ih =>
      show max (PyData.depth (.str a)) (PyData.depthAll (l.map .str)) ≤ 1
      have : PyData.depth (.str a) ≤ 1 := by unfold PyData.depth; omega
      omega
  unfold SeqAt.shaped wvD
  have e1 : PyData.canLay0 (.tuple [.int x.1, .tuple (x.2.map .str)]) = true := by
    show (PyData.canLay0 (.int x.1) && (PyData.canLayAll0 (x.2.map .str) && true)) = true
    rw [e x.2 h]; rfl
  have e2 : PyData.depth (.tuple [.int x.1, .tuple (x.2.map .str)]) ≤ 64 := by
    have := d x.2
    simp only [PyData.depth, PyData.depthAll]
    omega
  rw [e1, decide_eq_true e2]; rfl
theorem eqv_nth (x : Wv) : PyData.eqv (wvD x) (wvD (0, [])) = decide (x = (0, [])) := by
  obtain ⟨n, ws⟩ := x
  have e1 : ((n : Int) == 0) = decide (n = 0) := by by_cases h : n = 0 <;> simp [h]
  cases ws with
  | nil =>
    simp only [wvD, PyData.eqv, PyData.eqvAll, List.map_nil, e1, Bool.and_true]
    rw [decide_eq_decide]
    exact ⟨fun h => by rw [h], fun h => (Prod.mk.inj h).1⟩
  | cons a l =>
    have e2 : decide ((n, a :: l) = ((0, []) : Wv)) = false := decide_eq_false fun h => by cases (Prod.mk.inj h).2
    rw [e2]
    simp [wvD, PyData.eqv, PyData.eqvAll]
section
variable {P : Program} {w : World} {K : PySem.W.Frag} {mg : Str → Option Value} {base : Heap}
def spHeld (K : PySem.W.Frag) (CF : Addr) : Sp := fun vs H Q _ => ∃ (fr b : Addr) (pl : V) (kd Ws : List Str) (n : Nat) (f : Bq → Wv), vs = [.ref fr] ∧ FrH CF H fr b pl ∧ Hd K H b kd Ws n f ∧ n ≤ 1000 ∧ (∀ s ∈ Ws, PyData.strOk s = true) ∧
  ∀ (H' : Hp) (t : Addr) (xs : List V) (qs : List Bq), Ex [] H H' → SqT K H' t xs → TpAll K H' xs (qs.map (oneD f)) → qs.Pairwise leB → qs.Nodup → (∀ q, q ∈ qs ↔ ¬ f q = (0, [])) → qs.length ≤ 1000 → Q (.ref t) H'
theorem ok_held {f CF nA eA : Addr} {fd : FuncData} {k : Nat} (F : Fun K "held" "Frame.held" s_held f fd) (T : TF K mg CF) (N : Nth K mg nA eA) (m_sorted : mg "sorted" = none) (m_list : mg "list" = none) (m_tuple : mg "tuple" = none) : FnOk P w K mg base CX0 (k + 1) f fd ["self"] (spHeld K CF) := by
  refine F.ok sc_held (fun vs H Q E h => ?_) (fun cdv A outer s H vs Q E hr h => ?_)
  · obtain ⟨fr, b, pl, kd, Ws, n, f, rfl, _⟩ := h; rfl
  · obtain ⟨fr, b, pl, kd, Ws, n, g, rfl, hF, hD, hn, hWs, q⟩ := h
    have hu64 : (A.deeper (envOfC "Frame.held" (defScope s_held) s.heap.objs.size f cdv)).units + 64 < cLine := hr.units
    refine ⟨_, (pss_cons (ps_setLc (i := 1) (own := [("box", 2)]) (g := gName 2) (tt := tYes) rfl sc_held.nd rfl rfl (sw_true rfl rfl rfl (by decide +kernel)) (pi_list (pe_callB cr_sortQ (by rfl) m_sorted (by decide +kernel) (pa_cons (pe_callTy (call_list_dT rfl) (by rfl) m_list (by decide +kernel) (pa_cons (pe_fld (pv 0) rfl) pa_nil)) pa_nil)))
          (blkOk_by (N := n_held) (sc := defScope s_held) (by decide +kernel)) (fun _ _ _ _ _ => pg_name (i := 2) sc_held.nd rfl (Or.inl rfl)) (fun _ _ _ _ _ => pts_nil)
          (fun _ _ _ _ _ => pe_op (op_catB (K := K) rfl) (pe_tup (pa_cons (pv 2) pa_nil)) (pe_dget (hu_of hr) (pe_fldK (K := K) rfl (pv 0) rfl) (pv 2) (fun _ _ => rfl))))
      (pss_one (ps_ret (pe_callTy call_tuple_of (by rfl) m_tuple (by decide +kernel) (pa_cons (pe_lc (own := [("one", 3)]) (g := gName 3) rfl sc_held.nd (pi_list (pv 1)) (blkOk_by (N := n_held) (sc := defScope s_held) (by decide +kernel)) (fun _ _ _ _ _ => pg_name (i := 3) sc_held.nd rfl (Or.inl rfl))
          (fun _ _ _ _ _ => pts_one (pt_cmpR (op_neDK (K := K) rfl hu64) (pe_slice (sl_tupK (K := K) rfl) (pv 3) (po_some pe_int) po_none) (pe_glob (v := .ref nA) rfl N.m rfl) (nomark _))) (fun _ _ _ _ _ => pv 3)) pa_nil))))), ?_⟩
    obtain ⟨dx, fs, hf1, hf2, hf3, hf4, hf5⟩ := id hF
    obtain ⟨kvs, k1, k2, k3, k4, k5, k6, k7⟩ := id hD
    obtain ⟨bqs, eb, hbk⟩ := keys_bq k4
    have ndb : bqs.Nodup := by
      rw [eb] at k3
      exact List.Pairwise.of_map qK (fun a b h e => h (by rw [e])) k3
    have lb : bqs.length ≤ n := by
      have := congrArg List.length eb
      rw [List.length_map, List.length_map] at this
      omega
    refine ⟨.ref fr, rfl, fr, CF, dx, fs, .ref b, rfl, hf1, T.cl, T.nB, hf2, b, kvs, rfl, .inl k1, fun L bs nL ik => ?_⟩
    have xL : Ex [] H (upd H L (.lst (bs.map V.ref))) := .new nL
    have p2 : P2 (PlQ (upd H L (.lst (bs.map V.ref)))) (bs.map V.ref) (bqs.map gQ) := (keys_p2 ik eb).imp fun v q h => PlT.ex h xL
    refine ⟨L, bs.map V.ref, bqs.map gQ, rfl, .of upd_same, p2, fun ys qs0 M pm srt hys nM => ?_⟩
    obtain ⟨qs, rfl, pq⟩ := perm_g pm
    have xM : Ex [] (upd H L (.lst (bs.map V.ref))) (upd (upd H L (.lst (bs.map V.ref))) M (.lst ys)) := .new nM
    have xHM := xL.trans xM
    have hM : (upd (upd H L (.lst (bs.map V.ref))) M (.lst ys)) M = some (.lst ys) := upd_same
    have hys2 : P2 (PlQ (upd (upd H L (.lst (bs.map V.ref))) M (.lst ys))) ys (qs.map gQ) := hys.imp fun v q h => PlT.ex h xM
    generalize upd (upd H L (.lst (bs.map V.ref))) M (.lst ys) = H1 at xHM hM hys2
    have lq : qs.length = bqs.length := pq.length_eq
    have ly : ys.length = qs.length := by have := hys2.len; rw [List.length_map] at this; exact this
    have sq : qs.Pairwise leB := by
      have := srt
      rw [List.pairwise_map] at this
      exact this
    refine ⟨M, rfl, ⟨ys, .of hM⟩, fun D nD => ?_⟩
    have MD : M ≠ D := fun z => by rw [← z, hM] at nD; cases nD
    have bD : b ≠ D := ne_of_none (xHM.a b _ (by simp) k1 (fun _ z => by cases z)) nD
    have fD : fr ≠ D := ne_of_none (xHM.a fr _ (by simp) hf1 (fun _ z => by cases z)) nD
    have nD0 : H D = none := xHM.f _ nD
    refine lc_list (a := M) (xs := ys) (fun i H2 => ∃ acc, H2 D = some (.lst acc) ∧ TpAll K H2 acc ((qs.take i).map (oneD g)) ∧ H2 M = some (.lst ys) ∧ Ex [D] H1 H2) ?_ ?_ ?_ ?_
    · exact ⟨[], upd_same, by rw [List.take_zero]; exact .nil, by rw [upd_ne MD]; exact hM, .new nD⟩
    · rintro i H2 _ ⟨acc, _, _, h, _⟩
      exact .of h
    · rintro i x H2 hx ⟨acc, hDa, ha, hM2, x2⟩
      obtain ⟨q0, hq0, hpl⟩ := hys2.getL hx
      rw [List.getElem?_map] at hq0
      cases hqi : qs[i]? with
      | none => rw [hqi] at hq0; cases hq0
      | some q1 =>
        rw [hqi] at hq0
        cases hq0
        obtain ⟨t, rfl, ht⟩ := hpl
        have il : i < qs.length := (List.getElem?_eq_some_iff.mp hqi).1
        have mq : q1 ∈ bqs := pq.mem_iff.mp (List.mem_of_getElem? hqi)
        have xH2 : Ex [D] H H2 := (xHM.mono (by simp)).trans x2
        refine ⟨rfl, ?_⟩
        refine ⟨.ref t, rfl, (by show 1 ≤ sizeLine; decide), fun Z nZ => ?_⟩
        have xZ : Ex [] H2 (upd H2 Z (.tup [.ref t])) := .new nZ
        have xHZ : Ex [D] H (upd H2 Z (.tup [.ref t])) := xH2.trans (xZ.mono (by simp))
        have ht2 : (upd H2 Z (.tup [.ref t])) t = some (.tup (qV q1)) := xZ.tup (x2.tup ht)
        have hkv : ∃ v, valV kvs (qK q1) = some v := by
          cases hv : valV kvs (qK q1) with
          | some v => exact ⟨v, rfl⟩
          | none =>
            exfalso
            have mk : qK q1 ∈ kvs.map (·.1) := by rw [eb]; exact List.mem_map.mpr ⟨q1, mq, rfl⟩
            obtain ⟨kv, hkv, e⟩ := List.mem_map.mp mk
            unfold valV at hv
            have : kvs.find? (fun kv => decide (kv.1 = qK q1)) ≠ none := by
              rw [Ne, List.find?_eq_none]
              intro z
              exact z kv hkv (decide_eq_true e)
            cases hfd : kvs.find? (fun kv => decide (kv.1 = qK q1)) with
            | none => exact this hfd
            | some y => rw [hfd] at hv; cases hv
        obtain ⟨v, hv⟩ := hkv
        obtain ⟨v1, v2, rfl, hv1, hv2⟩ := wv_inv (k5 q1 v hv)
        refine ⟨.ref fr, rfl, fr, CF, dx, fs, .ref b, rfl, xHZ.a fr _ (by simpa using fD) hf1 (fun _ z => by cases z), T.cl, T.nB, hf2, .ref t, rfl, b, .ref v1, rfl, ?_, ?_⟩
        · rw [← hv]
          exact DGet.t (xHZ.a b _ (by simpa using bD) k1 (fun _ z => by cases z)) ht2
        · have e1 : SqT K (upd H2 Z (.tup [.ref t])) v1 [.int (g q1).1, .ref v2] := xHZ.seqT hv1
          have e2 : SqT K (upd H2 Z (.tup [.ref t])) v2 ((g q1).2.map V.str) := xHZ.seqT hv2
          refine tp_cat (K := K) (ds := [qD q1]) (es := [.int (g q1).1, .tuple ((g q1).2.map .str)]) (.of upd_same) e1 (.cons (.tup (.of ht2) (.cons (.str _) (.cons (.int _) .nil))) .nil) (.cons (.int _) (.cons (.tup e2 (TpAll.strs _)) .nil)) (by simp) fun p3 H3 zs x3 hs3 ht3 => ?_
          have hD3 := x3.lst (xZ.lst hDa)
          have lacc := ha.len
          rw [List.length_map, List.length_take] at lacc
          have x4 : Ex [D] H3 (upd H3 D (.lst (acc ++ [.ref p3]))) := .put hD3 nt_lst (by simp)
          refine ⟨acc, hD3, by rw [sizeLine_eq]; omega, acc ++ [.ref p3], upd_same, ?_, ?_, ((x2.trans (xZ.mono (by simp))).trans (x3.mono (by simp))).trans x4⟩
          · rw [List.take_add_one, hqi]
            show TpAll K _ _ ((qs.take i ++ [q1]).map (oneD g))
            rw [List.map_append]
            exact (((ha.ex xZ).ex x3).ex x4).app (.cons ((Tp.tup hs3 ht3).ex x4) .nil)
          · exact x4.lst (x3.lst (xZ.lst hM2)) (by simpa using MD)
    · rintro H2 ⟨acc, hDa, ha, hM2, x2⟩
      rw [ly, List.take_length] at ha
      have xH2 : Ex [] H H2 := Ex.own nD0 xHM x2
      have la := ha.len
      rw [List.length_map] at la
      refine ⟨.ref D, rfl, D, rfl, ⟨acc, .of hDa⟩, fun D2 nD2 => ?_⟩
      have DD : D ≠ D2 := fun z => by rw [← z, hDa] at nD2; cases nD2
      have nD20 : H D2 = none := xH2.f _ nD2
      refine lc_list (a := D) (xs := acc) (fun i H3 => ∃ acc2, H3 D2 = some (.lst acc2) ∧ TpAll K H3 acc2 (((qs.take i).filter fun q => decide (¬ g q = (0, []))).map (oneD g)) ∧ H3 D = some (.lst acc) ∧ Ex [D2] H2 H3 ∧ acc2.length ≤ i) ?_ ?_ ?_ ?_
      · exact ⟨[], upd_same, by rw [List.take_zero]; exact .nil, by rw [upd_ne DD]; exact hDa, .new nD2, Nat.le_refl _⟩
      · rintro i H3 _ ⟨_, _, _, h, _⟩
        exact .of h
      · rintro i x H3 hx ⟨acc2, hD2, ha2, hD3, x3, l2⟩
        obtain ⟨d1, hd1, tx⟩ := ha.get hx
        rw [List.getElem?_map] at hd1
        cases hqi : qs[i]? with
        | none => rw [hqi] at hd1; cases hd1
        | some q1 =>
          rw [hqi] at hd1
          cases hd1
          have il : i < qs.length := (List.getElem?_eq_some_iff.mp hqi).1
          have tx3 := tx.ex x3
          unfold oneD at tx3
          cases tx3 with
          | tup hs ha1 =>
            rename_i o zs
            cases ha1 with
            | cons h1 h2 =>
              rename_i z0 zr
              refine ⟨rfl, ?_⟩
              refine ⟨.ref o, rfl, 1, rfl, o, _, rfl, hs, fun z => absurd z cut1n, fun _ B nB => ?_⟩
              rw [cut1]
              have xB : Ex [] H3 (upd H3 B (.tup zr)) := .new nB
              have dB : Dp K (upd H3 B (.tup zr)) (.ref B) (wvD (g q1)) := .tup (.of upd_same) (h2.ex xB).dp
              refine ⟨wvD (g q1), wvD (0, []), dB, (N.tp _).dp, shaped_wv (fun s m => hWs s ((k7 q1).2 s m)), rfl, _, rfl, ?_⟩
              rw [eqv_nth]
              have tk : (qs.take (i + 1)).filter (fun q => decide (¬ g q = (0, []))) = (qs.take i).filter (fun q => decide (¬ g q = (0, []))) ++ (if g q1 = (0, []) then [] else [q1]) := by
                rw [List.take_add_one, hqi, List.filter_append]
                congr 1
                show [q1].filter _ = _
                rw [List.filter_cons]
                by_cases e : g q1 = (0, []) <;> simp [e]
              refine ite2 (fun e => ?_) fun e => ?_
              · have ng : ¬ g q1 = (0, []) := fun z => by rw [decide_eq_true z] at e; cases e
                have hD4 := xB.lst hD2
                have x4 : Ex [D2] (upd H3 B (.tup zr)) (upd (upd H3 B (.tup zr)) D2 (.lst (acc2 ++ [.ref o]))) := .put hD4 nt_lst (by simp)
                refine ⟨.ref o, rfl, acc2, hD4, by rw [sizeLine_eq]; omega, acc2 ++ [.ref o], upd_same, ?_, x4.lst (xB.lst hD3) (by simpa using DD), (x3.trans (xB.mono (by simp))).trans x4, by rw [List.length_append, List.length_singleton]; omega⟩
                rw [tk, if_neg ng, List.map_append]
                refine ((ha2.ex xB).ex x4).app (.cons (Tp.ex (Ex.trans (xB.mono (by simp)) x4) ?_) .nil)
                exact .tup hs (.cons h1 h2)
              · have ng : g q1 = (0, []) := by
                  refine Decidable.byContradiction fun z => e ?_
                  rw [decide_eq_false z]; rfl
                refine ⟨acc2, xB.lst hD2, ?_, xB.lst hD3, x3.trans (xB.mono (by simp)), by omega⟩
                rw [tk, if_pos ng, List.append_nil]
                exact ha2.ex xB
      · rintro H3 ⟨acc2, hD2, ha2, hD3, x3, l2⟩
        rw [la, List.take_length] at ha2
        refine ⟨D2, acc2, rfl, .inl ⟨.of hD2, fun t nt => ?_⟩⟩
        have xt : Ex [] H3 (upd H3 t (.tup acc2)) := .new nt
        have xH3 : Ex [] H H3 := Ex.own nD20 xH2 x3
        refine q _ t acc2 (qs.filter fun q => decide (¬ g q = (0, []))) (xH3.trans xt) (.of upd_same) (ha2.ex xt) (sq.filter _) ((pq.nodup_iff.mpr ndb).filter _) (fun r => ?_) (Nat.le_trans (List.length_filter_le _ _) (by omega))
        rw [List.mem_filter]
        constructor
        · intro z; exact of_decide_eq_true z.2
        · intro z
          refine ⟨?_, decide_eq_true z⟩
          rw [pq.mem_iff]
          refine Decidable.byContradiction fun nm => z (k6 r ?_)
          unfold valV
          have : kvs.find? (fun kv => decide (kv.1 = qK r)) = none := by
            rw [List.find?_eq_none]
            intro p hp e
            have mk : qK r ∈ kvs.map (·.1) := List.mem_map.mpr ⟨p, hp, of_decide_eq_true e⟩
            rw [eb] at mk
            obtain ⟨r', h1, h2⟩ := List.mem_map.mp mk
            exact nm (by rw [← qK_inj h2]; exact h1)
          rw [this]; rfl
end
end K45

namespace K45
open PySem PySem.Spec PyProof.Rows L2 Kk RZ
abbrev s_rinit : Stmt := inClass (topS 29) 0
abbrev s_next : Stmt := inClass (topS 29) 3
theorem sc_rinit : FnScope ["self", "program", "answers"] ["self", "program", "answers"] (defScope s_rinit) := ⟨rfl, rfl, rfl, by decide +kernel, rfl, by decide +kernel, by decide +kernel⟩
theorem sc_next : FnScope ["self", "choices", "answer"] ["self", "choices"] (defScope s_next) := ⟨rfl, rfl, rfl, by decide +kernel, rfl, by decide +kernel, by decide +kernel⟩
/-- a run -/
def RnH (CR : Addr) (H : Hp) (nw an tl fl : Addr) (wt : Int) : Prop := ∃ dx fs, H nw = some (.ins CR dx fs) ∧ fs.lookup ("answers" : Str) = some (.ref an) ∧ fs.lookup ("wanted" : Str) = some (.int wt) ∧ fs.lookup ("told" : Str) = some (.ref tl) ∧ fs.lookup ("frames" : Str) = some (.ref fl) ∧ fs.lookup ("next_answer" : Str) = none ∧ fs.length ≤ 20
theorem RnH.ex {CR : Addr} {H H' : Hp} {nw an tl fl : Addr} {wt : Int} {xs : List Addr} (h : RnH CR H nw an tl fl wt) (e : Ex xs H H') (m : nw ∉ xs) : RnH CR H' nw an tl fl wt := by
  obtain ⟨dx, fs, h1, r⟩ := h
  exact ⟨dx, fs, e.a nw _ m h1 (fun _ z => by cases z), r⟩
structure TR (K : PySem.W.Frag) (mg : Str → Option Value) (CR : Addr) : Prop where
  cl : Cls K CR
  n0 : NoAttr K CR "program"
  n1 : NoAttr K CR "answers"
  n2 : NoAttr K CR "wanted"
  n3 : NoAttr K CR "steps"
  n4 : NoAttr K CR "told"
  n5 : NoAttr K CR "left"
  n6 : NoAttr K CR "ending"
  n7 : NoAttr K CR "frames"
  mgC : mg "Run" = some (.ref CR)
section
variable {P : Program} {w : World} {K : PySem.W.Frag} {mg : Str → Option Value} {base : Heap}
def spRInit (CF CR : Addr) : Sp := fun vs H Q _ => ∃ (p dx an : Addr) (prg : V), vs = [.ref p, prg, .ref an] ∧ H p = some (.ins CR dx []) ∧ ∀ (H' : Hp) (fr b tl fl : Addr) (pl : V), Ex [p] H H' → H fr = none → H b = none → H tl = none → H fl = none → RnH CR H' p an tl fl 0 → FrH CF H' fr b pl → H' b = some (.dT []) → H' tl = some (.lst []) → H' fl = some (.lst [.ref fr]) → Q .non H'
theorem putF_len {f : Str} {v : V} : ∀ {fs : List (Str × V)}, fs.lookup f ≠ none → (putF f v fs).length = fs.length
  | [], h => absurd rfl h
  | (g, x) :: r, h => by
    unfold putF
    by_cases e : g = f
    · rw [if_pos e]; rfl
    · rw [if_neg e, List.length_cons, List.length_cons, putF_len (fs := r) ?_]
      intro z
      refine h ?_
      rw [List.lookup_cons]
      have : (f == g) = false := by
        cases q : f == g with
        | false => rfl
        | true => exact absurd (eq_of_beq q).symm e
      rw [this]; exact z
theorem lenF (f : Str) (v : V) {fs : List (Str × V)} {n : Nat} (h : fs.length ≤ n) : (putF f v fs).length ≤ n + 1 := Nat.le_trans (length_putF f v fs) (by omega)
theorem ok_rinit {f CF CR fI f1 : Addr} {fd fdI d1 : FuncData} {k : Nat} (F : Fun K "__init__" "Run.__init__" s_rinit f fd) (T : TR K mg CR) (TFr : TF K mg CF) (MF : Mk K CF fI) (GI : FnOk P w K mg base CX0 k fI fdI ["self", "place"] (spFInit CF)) (bI : Binds K fdI ["self", "place"] [])
    (C_first : Cl P w K mg base (k + 1) "first_place" ["program", "name"] spFirst f1 d1) : FnOk P w K mg base CX0 (k + 2) f fd ["self", "program", "answers"] (spRInit CF CR) := by
  refine F.ok sc_rinit (fun vs H Q E h => ?_) (fun cdv A outer s H vs Q E hr h => ?_)
  · obtain ⟨p, dx, an, prg, rfl, _⟩ := h; rfl
  · obtain ⟨p, dx, an, prg, rfl, hp, q⟩ := h
    refine ⟨_, (pss_cons (ps_fld (pv 0) (pv 1) rfl) (pss_cons (ps_fld (pv 0) (pv 2) rfl) (pss_cons (ps_fld (pv 0) pe_int rfl) (pss_cons (ps_fld (pv 0) pe_int rfl) (pss_cons (ps_fld (pv 0) (pe_lst pa_nil) rfl) (pss_cons (ps_fld (pv 0) (pe_lst pa_nil) rfl) (pss_cons (ps_fld (pv 0) pe_non rfl)
      (pss_one (ps_fld (pv 0) (pe_lst (pa_cons (pe_make MF GI hr (by rfl) TFr.mgC bI .nil pass0 (pa_cons (pe_call C_first.g hr (by rfl) C_first.m C_first.k C_first.b .nil pass0 (pa_cons (pv 1) (pa_cons pe_str pa_nil))) pa_nil)) pa_nil)) rfl))))))))), ?_⟩
    have put : ∀ {H1 : Hp} {fs fs' : List (Str × V)}, H1 p = some (.ins CR dx fs) → Ex [p] H1 (upd H1 p (.ins CR dx fs')) := fun h => .put h (fun _ z => by cases z) (by simp)
    have l0 : (([] : List (Str × V))).length ≤ 0 := Nat.le_refl _
    have l1 := lenF "program" prg l0
    have l2 := lenF "answers" (.ref an) l1
    have l3 := lenF "wanted" (.int 0) l2
    have l4 := lenF "steps" (.int 0) l3
    refine ⟨prg, rfl, .ref p, rfl, p, CR, dx, [], rfl, hp, T.cl, T.n0, (by show 0 < 1000; decide), ?_⟩
    have x1 := put (fs' := putF "program" prg []) hp
    refine ⟨.ref an, rfl, .ref p, rfl, p, CR, dx, _, rfl, upd_same, T.cl, T.n1, by omega, ?_⟩
    have x2 := x1.trans (put (fs' := putF "answers" (.ref an) (putF "program" prg [])) upd_same)
    refine ⟨.ref p, rfl, p, CR, dx, _, rfl, upd_same, T.cl, T.n2, by omega, ?_⟩
    have x3 := x2.trans (put (fs' := putF "wanted" (.int 0) (putF "answers" (.ref an) (putF "program" prg []))) upd_same)
    refine ⟨.ref p, rfl, p, CR, dx, _, rfl, upd_same, T.cl, T.n3, by omega, ?_⟩
    have x4 := x3.trans (put (fs' := putF "steps" (.int 0) (putF "wanted" (.int 0) (putF "answers" (.ref an) (putF "program" prg [])))) upd_same)
    generalize hfs4 : putF "steps" (.int 0) (putF "wanted" (.int 0) (putF "answers" (.ref an) (putF "program" prg []))) = fs4 at l4 x4
    have h4 : ∀ {H0 : Hp}, (upd H0 p (.ins CR dx fs4)) p = some (.ins CR dx fs4) := upd_same
    refine ⟨Nat.zero_le _, fun tl ntl => ?_⟩
    have h4' := h4 (H0 := upd (upd (upd H p (.ins CR dx (putF "program" prg []))) p (.ins CR dx (putF "answers" (.ref an) (putF "program" prg [])))) p (.ins CR dx (putF "wanted" (.int 0) (putF "answers" (.ref an) (putF "program" prg [])))))
    generalize upd (upd (upd (upd H p (.ins CR dx (putF "program" prg []))) p (.ins CR dx (putF "answers" (.ref an) (putF "program" prg [])))) p (.ins CR dx (putF "wanted" (.int 0) (putF "answers" (.ref an) (putF "program" prg []))))) p (.ins CR dx fs4) = H4 at x4 h4' ntl
    have ptl : p ≠ tl := ne_of_none h4' ntl
    have xt : Ex [p] H4 (upd H4 tl (.lst [])) := .new ntl
    have l5 := lenF "told" (.ref tl) l4
    refine ⟨.ref p, rfl, p, CR, dx, fs4, rfl, by rw [upd_ne ptl]; exact h4', T.cl, T.n4, by omega, ?_⟩
    have x5 := (x4.trans xt).trans (put (fs' := putF "told" (.ref tl) fs4) (by rw [upd_ne ptl]; exact h4'))
    have h5 : (upd (upd H4 tl (.lst [])) p (.ins CR dx (putF "told" (.ref tl) fs4))) p = some (.ins CR dx (putF "told" (.ref tl) fs4)) := upd_same
    have h5t : (upd (upd H4 tl (.lst [])) p (.ins CR dx (putF "told" (.ref tl) fs4))) tl = some (.lst []) := by rw [upd_ne ptl.symm, upd_same]
    have n5 : H tl = none := x4.f _ ntl
    generalize upd (upd H4 tl (.lst [])) p (.ins CR dx (putF "told" (.ref tl) fs4)) = H5 at x5 h5 h5t
    refine ⟨Nat.zero_le _, fun lf nlf => ?_⟩
    have plf : p ≠ lf := ne_of_none h5 nlf
    have tlf : tl ≠ lf := ne_of_none h5t nlf
    have xl : Ex [p] H5 (upd H5 lf (.lst [])) := .new nlf
    have l6 := lenF "left" (.ref lf) l5
    refine ⟨.ref p, rfl, p, CR, dx, _, rfl, by rw [upd_ne plf]; exact h5, T.cl, T.n5, by omega, ?_⟩
    have x6 := (x5.trans xl).trans (put (fs' := putF "left" (.ref lf) (putF "told" (.ref tl) fs4)) (by rw [upd_ne plf]; exact h5))
    refine ⟨.ref p, rfl, p, CR, dx, _, rfl, upd_same, T.cl, T.n6, by omega, ?_⟩
    have l7 := lenF "ending" V.non l6
    have x7 := x6.trans (put (fs' := putF "ending" .non (putF "left" (.ref lf) (putF "told" (.ref tl) fs4))) upd_same)
    have h7 : (upd (upd (upd H5 lf (.lst [])) p (.ins CR dx (putF "left" (.ref lf) (putF "told" (.ref tl) fs4)))) p (.ins CR dx (putF "ending" .non (putF "left" (.ref lf) (putF "told" (.ref tl) fs4))))) p = some (.ins CR dx (putF "ending" .non (putF "left" (.ref lf) (putF "told" (.ref tl) fs4)))) := upd_same
    have h7t : (upd (upd (upd H5 lf (.lst [])) p (.ins CR dx (putF "left" (.ref lf) (putF "told" (.ref tl) fs4)))) p (.ins CR dx (putF "ending" .non (putF "left" (.ref lf) (putF "told" (.ref tl) fs4))))) tl = some (.lst []) := by rw [upd_ne ptl.symm, upd_ne ptl.symm, upd_ne tlf]; exact h5t
    generalize upd (upd (upd H5 lf (.lst [])) p (.ins CR dx (putF "left" (.ref lf) (putF "told" (.ref tl) fs4)))) p (.ins CR dx (putF "ending" .non (putF "left" (.ref lf) (putF "told" (.ref tl) fs4)))) = H7 at x7 h7 h7t
    refine ⟨prg, rfl, prg, _, rfl, fun t nt x dx2 nx ndx nex => ?_⟩
    have xt2 : Ex [p] H7 (upd H7 t (.tup [.str (Str.ofString ""), .int 0])) := .new nt
    have xd : Ex [p] (upd H7 t (.tup [.str (Str.ofString ""), .int 0])) (upd (upd H7 t (.tup [.str (Str.ofString ""), .int 0])) dx2 (.own x)) := .new ndx
    have nx2 : (upd (upd H7 t (.tup [.str (Str.ofString ""), .int 0])) dx2 (.own x)) x = none := by rw [upd_ne nex.symm]; exact nx
    have xx : Ex [p] (upd (upd H7 t (.tup [.str (Str.ofString ""), .int 0])) dx2 (.own x)) (upd (upd (upd H7 t (.tup [.str (Str.ofString ""), .int 0])) dx2 (.own x)) x (.ins CF dx2 [])) := .new nx2
    refine ⟨x, dx2, .ref t, rfl, upd_same, fun H8 b nb x8 hF8 hb8 => ⟨rfl, ?_⟩⟩
    have nx7 : H7 x = none := upd_free nx
    have px : p ≠ x := ne_of_none h7 nx7
    have tx : tl ≠ x := ne_of_none h7t nx7
    have x78 : Ex [p, x] H7 H8 := (((xt2.trans xd).trans xx).mono (by simp)).trans (x8.mono (by simp))
    have x78p : Ex [p] H7 H8 := Ex.own nx7 .refl (x78.mono (by simp))
    have h8 : H8 p = some (.ins CR dx (putF "ending" .non (putF "left" (.ref lf) (putF "told" (.ref tl) fs4)))) := x8.a p _ (by simpa using px) (by rw [upd_ne px]; exact (Ex.new ndx (xs := [])).a p _ (by simp) ((Ex.new nt (xs := [])).a p _ (by simp) h7 (fun _ z => by cases z)) (fun _ z => by cases z)) (fun _ z => by cases z)
    have h8t : H8 tl = some (.lst []) := x78p.lst h7t (by simpa using ptl.symm)
    have nb7 : H7 b = none := upd_free (upd_free (upd_free nb))
    refine ⟨(by show 1 ≤ sizeLine; decide), fun fl nfl => ?_⟩
    have pfl : p ≠ fl := ne_of_none h8 nfl
    have xf : Ex [p] H8 (upd H8 fl (.lst [.ref x])) := .new nfl
    refine ⟨.ref p, rfl, p, CR, dx, _, rfl, by rw [upd_ne pfl]; exact h8, T.cl, T.n7, by omega, ?_⟩
    have x9 : Ex [p] (upd H8 fl (.lst [.ref x])) (upd (upd H8 fl (.lst [.ref x])) p (.ins CR dx (putF "frames" (.ref fl) (putF "ending" .non (putF "left" (.ref lf) (putF "told" (.ref tl) fs4)))))) := put (by rw [upd_ne pfl]; exact h8)
    have x89 := xf.trans x9
    have bp : b ≠ p := fun z => by rw [z, h7] at nb7; cases nb7
    have flp : fl ≠ p := pfl.symm
    refine q _ x b tl fl (.ref t) ((x7.trans x78p).trans x89) (x7.f _ nx7) (x7.f _ nb7) n5 (x7.f _ (x78p.f _ nfl)) ⟨dx, _, upd_same, ?_, ?_, ?_, ?_, ?_, ?_⟩ (hF8.ex x89 (by simpa using px.symm)) (x89.a b _ (by simpa using bp) hb8 (fun _ z => by cases z)) (x89.lst h8t (by simpa using ptl.symm)) (by rw [upd_ne flp, upd_same])
    · rw [← hfs4]
      simp only [lookup_putF]
      rw [if_neg (by decide +kernel), if_neg (by decide +kernel), if_neg (by decide +kernel), if_neg (by decide +kernel), if_neg (by decide +kernel), if_neg (by decide +kernel), if_pos trivial]
    · rw [← hfs4]
      simp only [lookup_putF]
      rw [if_neg (by decide +kernel), if_neg (by decide +kernel), if_neg (by decide +kernel), if_neg (by decide +kernel), if_neg (by decide +kernel), if_pos trivial]
    · simp only [lookup_putF]
      rw [if_neg (by decide +kernel), if_neg (by decide +kernel), if_neg (by decide +kernel), if_pos trivial]
    · simp only [lookup_putF]
      rw [if_pos trivial]
    · rw [← hfs4]
      simp only [lookup_putF]
      rw [if_neg (by decide +kernel), if_neg (by decide +kernel), if_neg (by decide +kernel), if_neg (by decide +kernel), if_neg (by decide +kernel), if_neg (by decide +kernel), if_neg (by decide +kernel), if_neg (by decide +kernel)]
      rfl
    · have l8 := lenF "frames" (.ref fl) l7
      omega
def spNext (K : PySem.W.Frag) (CR : Addr) : Sp := fun vs H Q _ => ∃ (nw an tl fl : Addr) (wt : Nat) (ch a : Int) (xs : List V), vs = [.ref nw, .int ch] ∧ RnH CR H nw an tl fl wt ∧ SqT K H an xs ∧ xs[wt]? = some (.int a) ∧ 0 ≤ a ∧ a < ch ∧ ∀ H', Ex [nw] H H' → RnH CR H' nw an tl fl (wt + 1 : Nat) → Q (.int a) H'
theorem ok_next {f CR f1 : Addr} {fd d1 : FuncData} {k : Nat} (F : Fun K "next_answer" "Run.next_answer" s_next f fd) (T : TR K mg CR) (C_whole : Cl P w K mg base k "is_whole" ["thing"] spWholeI f1 d1) (m_len : mg "len" = none) : FnOk P w K mg base CX0 (k + 1) f fd ["self", "choices"] (spNext K CR) := by
  refine F.ok sc_next (fun vs H Q E h => ?_) (fun cdv A outer s H vs Q E hr h => ?_)
  · obtain ⟨nw, an, tl, fl, wt, ch, a, xs, rfl, _⟩ := h; rfl
  · obtain ⟨nw, an, tl, fl, wt, ch, a, xs, rfl, ⟨dx, fs, h1, h2, h3, h4, h5, h6, h7⟩, hs, hx, a0, a1, q⟩ := h
    refine ⟨_, (pss_cons (ps_if (pt_cmpR op_eq (pe_fld (pv 0) rfl) (pe_callB call_len_seq (by rfl) m_len PySem.boot_len (pa_cons (pe_fld (pv 0) rfl) pa_nil)) (nomark _)) (pss_one ps_nv) pss_nil)
      (pss_cons (ps_set (i := 2) sc_next.nd rfl (.inl rfl) (pe_ix ix_tup (pe_fld (pv 0) rfl) (pe_fld (pv 0) rfl) (fun _ _ => rfl)))
      (pss_cons (ps_if (PW.pt (pw_or (pt_not (pt_val (pe_call C_whole.g hr (by rfl) C_whole.m C_whole.k C_whole.b .nil pass0 (pa_cons (pv 2) pa_nil)))) (pw_or1 (pt_not (pt_chain op_le op_lt pe_int (pv 2) (pv 1)))))) (pss_one ps_nv) pss_nil)
      (pss_cons (ps_fldaug (pv 0) pe_int ip_add)
      (pss_one (ps_ret (pv 2))))))), ?_⟩
    have wl : wt < xs.length := (List.getElem?_eq_some_iff.mp hx).1
    refine ⟨.ref nw, rfl, nw, CR, dx, fs, .int wt, rfl, h1, T.cl, T.n2, h3, .ref nw, rfl, nw, CR, dx, fs, .ref an, rfl, h1, T.cl, T.n1, h2, an, xs, rfl, .inr hs, rfl, _, rfl, ite2 (fun e => ?_) fun _ => ?_⟩
    · have := V.int.inj (of_decide_eq_true e)
      omega
    refine ⟨.ref nw, rfl, nw, CR, dx, fs, .ref an, rfl, h1, T.cl, T.n1, h2, .ref nw, rfl, nw, CR, dx, fs, .int wt, rfl, h1, T.cl, T.n2, h3, an, xs, wt, .int a, rfl, rfl, hs, atI_nat hx, ?_⟩
    refine ⟨.int a, rfl, a, rfl, _, rfl, iteF ?_⟩
    refine ⟨.int a, rfl, 0, a, rfl, rfl, _, rfl, ?_⟩
    rw [decide_eq_true a0]
    refine iteT ⟨.int ch, rfl, a, ch, rfl, rfl, _, rfl, ?_⟩
    rw [decide_eq_true a1]
    refine iteF ?_
    refine ⟨.ref nw, rfl, nw, CR, dx, fs, .int wt, rfl, h1, T.cl, T.n2, h3, wt, 1, rfl, rfl, dx, fs, h1, by omega, .int a, rfl, ?_⟩
    refine q _ (.put h1 (fun _ z => by cases z) (by simp)) ⟨dx, _, upd_same, ?_, ?_, ?_, ?_, ?_, ?_⟩
    · rw [lookup_putF, if_neg (by decide +kernel)]; exact h2
    · rw [lookup_putF, if_pos rfl]; rfl
    · rw [lookup_putF, if_neg (by decide +kernel)]; exact h4
    · rw [lookup_putF, if_neg (by decide +kernel)]; exact h5
    · rw [lookup_putF, if_neg (by decide +kernel)]; exact h6
    · rw [putF_len (by rw [h3]; simp)]; exact h7
end
end K45

set_option maxHeartbeats 4000000
namespace K45
open PySem PySem.Spec PyProof.Rows L2 Kk RZ
abbrev s_as : Stmt := topS 36
abbrev n_as : List Str := ["order", "parts", "kind", "part"]
theorem sc_as : FnScope n_as ["order"] (defScope s_as) := ⟨rfl, rfl, rfl, by decide +kernel, rfl, by decide +kernel, by decide +kernel⟩
/-! orders -/
inductive Or
  | take (h : Nat) (s : Str)
  | ask (h : Nat)
  | number (h : Nat) (n : Int)
  | copy (h g : Nat)
  | mix (h g i : Nat)
  | opn (h g : Nat)
  | tell (h : Nat)
  | wipe (h : Nat)
  | lay (s h : Nat)
  | fetch (h s : Nat)
  | clean (s : Nat)
def orK : Or → Str
  | .take _ _ => Str.ofString "take"
  | .ask _ => Str.ofString "ask"
  | .number _ _ => Str.ofString "number"
  | .copy _ _ => Str.ofString "copy"
  | .mix _ _ _ => Str.ofString "mix"
  | .opn _ _ => Str.ofString "open"
  | .tell _ => Str.ofString "tell"
  | .wipe _ => Str.ofString "wipe"
  | .lay _ _ => Str.ofString "lay"
  | .fetch _ _ => Str.ofString "fetch"
  | .clean _ => Str.ofString "clean"
def orV : Or → List V
  | .take h s => [.int h, .str s]
  | .ask h => [.int h]
  | .number h n => [.int h, .int n]
  | .copy h g => [.int h, .int g]
  | .mix h g i => [.int h, .int g, .int i]
  | .opn h g => [.int h, .int g]
  | .tell h => [.int h]
  | .wipe h => [.int h]
  | .lay s h => [.int s, .int h]
  | .fetch h s => [.int h, .int s]
  | .clean s => [.int s]
def orP : Or → List PyData
  | .take h s => [.int h, .str s]
  | .ask h => [.int h]
  | .number h n => [.int h, .int n]
  | .copy h g => [.int h, .int g]
  | .mix h g i => [.int h, .int g, .int i]
  | .opn h g => [.int h, .int g]
  | .tell h => [.int h]
  | .wipe h => [.int h]
  | .lay s h => [.int s, .int h]
  | .fetch h s => [.int h, .int s]
  | .clean s => [.int s]
def orD (o : Or) : PyData := .tuple (.str (orK o) :: orP o)
def hnd : Str := Str.ofString "hand"
def slt : Str := Str.ofString "slot"
def nme : Str := Str.ofString "name"
def nmb : Str := Str.ofString "number"
def orS : Or → List Str
  | .take _ _ => [hnd, nme]
  | .ask _ => [hnd]
  | .number _ _ => [hnd, nmb]
  | .copy _ _ => [hnd, hnd]
  | .mix _ _ _ => [hnd, hnd, hnd]
  | .opn _ _ => [hnd, hnd]
  | .tell _ => [hnd]
  | .wipe _ => [hnd]
  | .lay _ _ => [slt, hnd]
  | .fetch _ _ => [hnd, slt]
  | .clean _ => [slt]
def asW : Or → Wo
  | .take h s => .take (hnd, h) s
  | .ask h => .ask (hnd, h)
  | .number h n => .number (hnd, h) n
  | .copy h g => .copy (hnd, h) (hnd, g)
  | .mix h g i => .mix (hnd, h) (hnd, g) (hnd, i)
  | .opn h g => .opn (hnd, h) (hnd, g)
  | .tell h => .tell (hnd, h)
  | .wipe h => .wipe (hnd, h)
  | .lay s h => .copy (slt, s) (hnd, h)
  | .fetch h s => .copy (hnd, h) (slt, s)
  | .clean s => .wipe (slt, s)
def asK : Or → Str
  | .lay _ _ => Str.ofString "copy"
  | .fetch _ _ => Str.ofString "copy"
  | .clean _ => Str.ofString "wipe"
  | o => orK o
theorem or_vals {K : PySem.W.Frag} {H : Hp} {o : Or} {xs : List V} (h : TpAll K H xs (orP o)) : xs = orV o := by
  cases o <;> (simp only [orP] at h; simp only [orV])
  all_goals
    cases h with
    | cons a b =>
      cases a
      first
      | (cases b; rfl)
      | (cases b with
        | cons a b =>
          cases a
          first
          | (cases b; rfl)
          | (cases b with
            | cons a b =>
              cases a
              cases b
              rfl))
theorem or_len (o : Or) : (orV o).length = (orS o).length ∧ (orS o).length ≤ 3 := by cases o <;> exact ⟨rfl, by simp [orS]⟩
/-- the kinds of the orders, and the orders that are words, where they stand -/
structure Ok (K : PySem.W.Frag) (w : World) (mg : Str → Option Value) (oA wA : Addr) (es : Array DictEntry) (n : Nat) : Prop where
  m : mg "ORDERS" = some (.ref oA)
  o : ∀ o, ∃ t, KDct K w oA (orK o) (.ref t) ∧ ∀ H, SqT K H t ((orS o).map V.str)
  mw : mg "AS_WORDS" = some (.ref wA)
  d : KDict K w wA es n
  w : ∀ o : Or, ∃ r : Option Value, PySem.W.nsIn K wA (orK o) = some r ∧ (∀ u, r = some u → RelV (.str (asK o)) u) ∧ (r = none → asK o = orK o)
/-- a part as it is put -/
def CvR (H : Hp) (kp : Str × V) (c : V) : Prop := (kp.1 = hnd ∨ kp.1 = slt) ∧ (∃ t, c = .ref t ∧ H t = some (.tup [.str kp.1, kp.2])) ∨ (¬ (kp.1 = hnd ∨ kp.1 = slt)) ∧ c = kp.2
theorem CvR.ex {H H' : Hp} {kp : Str × V} {c : V} {xs : List Addr} (h : CvR H kp c) (e : Ex xs H H') : CvR H' kp c := by
  rcases h with ⟨h1, t, h2, h3⟩ | h
  · exact .inl ⟨h1, t, h2, e.tup h3⟩
  · exact .inr h
theorem cv_h {H : Hp} {v c : V} (h : CvR H (hnd, v) c) : ∃ t, c = .ref t ∧ H t = some (.tup [.str hnd, v]) := by
  rcases h with ⟨_, h⟩ | ⟨h, _⟩
  · exact h
  · exact absurd (.inl rfl) h
theorem cv_s {H : Hp} {v c : V} (h : CvR H (slt, v) c) : ∃ t, c = .ref t ∧ H t = some (.tup [.str slt, v]) := by
  rcases h with ⟨_, h⟩ | ⟨h, _⟩
  · exact h
  · exact absurd (.inr rfl) h
theorem cv_n {H : Hp} {v c : V} (h : CvR H (nme, v) c) : c = v := by
  rcases h with ⟨h, _⟩ | ⟨_, h⟩
  · exact absurd (show nme = hnd ∨ nme = slt from h) (by decide +kernel)
  · exact h
theorem cv_b {H : Hp} {v c : V} (h : CvR H (nmb, v) c) : c = v := by
  rcases h with ⟨h, _⟩ | ⟨_, h⟩
  · exact absurd (show nmb = hnd ∨ nmb = slt from h) (by decide +kernel)
  · exact h
theorem as_ok {H : Hp} {o : Or} {cs : List V} (h : P2 (CvR H) ((orS o).zip (orV o)) cs) : WoX H (asW o) (.str (asK o) :: cs) := by
  cases o with
  | take x s =>
    cases h with | cons a b => cases b with | cons b c => cases c; obtain ⟨t, rfl, ht⟩ := cv_h a; rw [cv_n b]; exact ⟨_, rfl, t, rfl, ht⟩
  | ask x => cases h with | cons a b => cases b; obtain ⟨t, rfl, ht⟩ := cv_h a; exact ⟨_, rfl, t, rfl, ht⟩
  | number x n =>
    cases h with | cons a b => cases b with | cons b c => cases c; obtain ⟨t, rfl, ht⟩ := cv_h a; rw [cv_b b]; exact ⟨_, rfl, t, rfl, ht⟩
  | copy x y =>
    cases h with | cons a b => cases b with | cons b c => cases c; obtain ⟨t, rfl, ht⟩ := cv_h a; obtain ⟨u, rfl, hu⟩ := cv_h b; exact ⟨_, _, rfl, ⟨t, rfl, ht⟩, u, rfl, hu⟩
  | mix x y z =>
    cases h with | cons a b => cases b with | cons b c => cases c with | cons c d => cases d; obtain ⟨t, rfl, ht⟩ := cv_h a; obtain ⟨u, rfl, hu⟩ := cv_h b; obtain ⟨v, rfl, hv⟩ := cv_h c; exact ⟨_, _, _, rfl, ⟨t, rfl, ht⟩, ⟨u, rfl, hu⟩, v, rfl, hv⟩
  | opn x y =>
    cases h with | cons a b => cases b with | cons b c => cases c; obtain ⟨t, rfl, ht⟩ := cv_h a; obtain ⟨u, rfl, hu⟩ := cv_h b; exact ⟨_, _, rfl, ⟨t, rfl, ht⟩, u, rfl, hu⟩
  | tell x => cases h with | cons a b => cases b; obtain ⟨t, rfl, ht⟩ := cv_h a; exact ⟨_, rfl, t, rfl, ht⟩
  | wipe x => cases h with | cons a b => cases b; obtain ⟨t, rfl, ht⟩ := cv_h a; exact ⟨_, rfl, t, rfl, ht⟩
  | lay x y =>
    cases h with | cons a b => cases b with | cons b c => cases c; obtain ⟨t, rfl, ht⟩ := cv_s a; obtain ⟨u, rfl, hu⟩ := cv_h b; exact ⟨_, _, rfl, ⟨t, rfl, ht⟩, u, rfl, hu⟩
  | fetch x y =>
    cases h with | cons a b => cases b with | cons b c => cases c; obtain ⟨t, rfl, ht⟩ := cv_h a; obtain ⟨u, rfl, hu⟩ := cv_s b; exact ⟨_, _, rfl, ⟨t, rfl, ht⟩, u, rfl, hu⟩
  | clean x => cases h with | cons a b => cases b; obtain ⟨t, rfl, ht⟩ := cv_s a; exact ⟨_, rfl, t, rfl, ht⟩
theorem walk_zipT {K : PySem.W.Frag} {a b : Addr} {xs ys : List V} {n : Nat} (hn : n = min xs.length ys.length) : Walk (ItzT K a b) n (fun H => SqT K H a xs ∧ SqT K H b ys) (YPair (fun i => xs[i]?) (fun i => ys[i]?)) := by
  subst hn
  refine ⟨fun i _ hi q => ?_, fun _ q => ⟨xs, ys, q.1, q.2, by omega⟩, fun i H v H' _ q y => ?_⟩
  · have h1 : i < xs.length := by omega
    have h2 : i < ys.length := by omega
    exact ⟨xs, ys, xs[i], ys[i], q.1, q.2, by simp [h1], by simp [h2]⟩
  · obtain ⟨T, x, z, h1, h2, h3, h4, h5⟩ := y
    exact ⟨T, x, z, h1, h2, h3, h4 xs q.1, h5 ys q.2⟩
theorem eqV_str {a b : Str} (h : eqV (V.str a) (V.str b) = true) : a = b := by
  have h' : (a == b) = true := by
    first
    | exact h
    | (unfold eqV at h; simpa using h)
  exact eq_of_beq h'
/-- the value that is appended -/
def tCv : TE := fun σ H Q => ∃ (y0 y1 : Option V) (kd : Str) (p : V), σ = [y0, y1, some (.str kd), some p] ∧ ∀ H' c, Ex [] H H' → CvR H' (kd, p) c → Q c H'
section
variable {P : Program} {w : World} {K : PySem.W.Frag} {mg : Str → Option Value} {base : Heap}
def spAs (K : PySem.W.Frag) : Sp := fun vs H Q _ => ∃ (v : V) (o : Or), vs = [v] ∧ Tp K H v (orD o) ∧ ∀ H' u, Ex [] H H' → WoH K H' u (asW o) → Q u H'
theorem ok_as {f oA wA : Addr} {fd : FuncData} {es : Array DictEntry} {n k : Nat} (F : Fun K "as_word" "as_word" s_as f fd) (M : Ok K w mg oA wA es n) (m_zip : mg "zip" = none) (m_tuple : mg "tuple" = none) : FnOk P w K mg base CX0 (k + 1) f fd ["order"] (spAs K) := by
  refine F.ok sc_as (fun vs H Q E h => ?_) (fun cdv A outer s H vs Q E hr h => ?_)
  · obtain ⟨v, o, rfl, _⟩ := h; rfl
  · obtain ⟨v, o, rfl, ht, q⟩ := h
    refine ⟨_, (pss_cons (ps_set (i := 1) sc_as.nd rfl (.inl rfl) (pe_lst (pa_cons (pe_kget2 (pe_glob (v := .ref wA) rfl M.mw rfl) (pe_ix ix_tup (pv 0) pe_int (fun _ _ => rfl)) (pe_ix ix_tup (pv 0) pe_int (fun _ _ => rfl)) ⟨rfl, rfl, rfl, rfl⟩) pa_nil)))
      (pss_cons (ps_for PassesOwn.never rfl (pi_zipA (by rfl) m_zip (pa_cons (pe_ix ix_kdict (pe_glob (v := .ref oA) rfl M.m rfl) (pe_ix ix_tup (pv 0) pe_int (fun _ _ => rfl)) (fun _ _ => rfl)) (pa_cons (pe_slice sl_tupA (pv 0) (po_some pe_int) po_none) pa_nil))) (pg_tup rfl (pgs_cons (pg_name (i := 2) sc_as.nd rfl (.inl rfl)) (pgs_cons (pg_name (i := 3) sc_as.nd rfl (.inl rfl)) pgs_nil)))
        (pss_one (ps_expr (pe_bm PySem.F.plainAttrs_list PySem.F.slot_list_append PySem.F.type_list_append mt_append (pv 1) (pa_cons (PE.by (t' := tCv) (pe_ifExp (pt_cmpR op_in_seq (pv 2) (pe_tup (pa_cons pe_str (pa_cons pe_str pa_nil))) rfl) (pe_tup (pa_cons (pv 2) (pa_cons (pv 3) pa_nil))) (pv 3)) (by
          rintro σ H Q ⟨y0, y1, kd, p, rfl, q⟩
          refine ⟨.str kd, rfl, (by show 2 ≤ sizeLine; decide), fun T nT => ?_⟩
          have xT : Ex [] H (upd H T (.tup [.str (Str.ofString "hand"), .str (Str.ofString "slot")])) := .new nT
          refine ⟨T, _, rfl, .inr (.of upd_same), rfl, rfl, _, rfl, ite2 (fun e => ?_) fun e => ?_⟩
          · refine ⟨.str kd, rfl, p, rfl, (by show 2 ≤ sizeLine; decide), fun U nU => ?_⟩
            have xU : Ex [] (upd H T (.tup [.str (Str.ofString "hand"), .str (Str.ofString "slot")])) (upd (upd H T (.tup [.str (Str.ofString "hand"), .str (Str.ofString "slot")])) U (.tup [.str kd, p])) := .new nU
            refine q _ _ (xT.trans xU) (.inl ⟨?_, U, rfl, upd_same⟩)
            have e2 : inV (.str kd) [.str (Str.ofString "hand"), .str (Str.ofString "slot")] = true := e
            by_cases h1 : kd = hnd
            · exact .inl h1
            · refine .inr (Decidable.byContradiction fun h2 => ?_)
              have : inV (.str kd) [.str (Str.ofString "hand"), .str (Str.ofString "slot")] = false := by
                simp [inV]
                refine ⟨?_, ?_⟩
                · cases z : eqV (V.str (Str.ofString "hand")) (V.str kd) with
                  | false => rfl
                  | true => exact absurd (eqV_str z).symm h1
                · cases z : eqV (V.str (Str.ofString "slot")) (V.str kd) with
                  | false => rfl
                  | true => exact absurd (eqV_str z).symm h2
              rw [this] at e2; cases e2
          · refine ⟨p, rfl, q _ _ xT (.inr ⟨fun z => e ?_, rfl⟩)⟩
            show inV (.str kd) [.str (Str.ofString "hand"), .str (Str.ofString "slot")] = true
            rcases z with z | z
            · have z : kd = hnd := z
              rw [z]; decide +kernel
            · have z : kd = slt := z
              rw [z]; decide +kernel)) pa_nil)))))
      (pss_one (ps_ret (pe_callTy call_tuple_of (by rfl) m_tuple (by decide +kernel) (pa_cons (pv 1) pa_nil)))))), ?_⟩
    unfold orD at ht
    cases ht with
    | tup hs ha =>
      rename_i a xs
      cases ha with
      | cons h0 hr1 =>
        cases h0
        rename_i rest
        obtain rfl := or_vals hr1
        obtain ⟨ln1, ln2⟩ := or_len o
        obtain ⟨r, w1, w2, w3⟩ := M.w o
        refine ⟨wA, es, n, rfl, M.d, .ref a, rfl, a, _, 0, .str (orK o), rfl, rfl, hs, at0, .ref a, rfl, a, _, 0, .str (orK o), rfl, rfl, hs, at0, orK o, r, .str (asK o), rfl, w1, w2, fun e => by rw [w3 e], (by show 1 ≤ sizeLine; decide), fun L nL => ?_⟩
        have xL : Ex [] H (upd H L (.lst [.str (asK o)])) := .new nL
        obtain ⟨t, kt, st⟩ := M.o o
        refine ⟨.ref a, rfl, a, _, 0, .str (orK o), rfl, rfl, xL.seqT hs, at0, oA, orK o, .ref t, rfl, rfl, kt, .ref a, rfl, 1, rfl, a, _, rfl, xL.seqT hs, fun z => absurd z cut1n, fun _ B nB => ?_⟩
        rw [cut1]
        have xB : Ex [] (upd H L (.lst [.str (asK o)])) (upd (upd H L (.lst [.str (asK o)])) B (.tup (orV o))) := .new nB
        have LB : L ≠ B := ne_of_none upd_same nB
        refine ⟨t, B, (orS o).map V.str, orV o, rfl, .inr ⟨st _, .of upd_same, ?_⟩⟩
        refine for_it (walk_zipT (xs := (orS o).map V.str) (ys := orV o) rfl) (fun i σ H2 => ∃ y2 y3 cs, σ = [some (.ref a), some (.ref L), y2, y3] ∧ H2 L = some (.lst (.str (asK o) :: cs)) ∧ P2 (CvR H2) (((orS o).zip (orV o)).take i) cs ∧ H2 B = some (.tup (orV o)) ∧ Ex [] H H2) ?_ ?_ ?_ ?_
        · exact ⟨_, _, [], rfl, xB.lst upd_same, .nil, upd_same, xL.trans xB⟩
        · rintro i σ H2 _ ⟨_, _, _, _, _, _, hB, _⟩
          exact ⟨st _, .of hB⟩
        · rintro i x σ H2 H3 hi ⟨y2, y3, cs, rfl, hL2, hp2, hB2, x2⟩ ⟨T9, x9, y9, rfl, n9, rfl, hx9, hy9⟩
          have hx9 : ((orS o).map V.str)[i]? = some x9 := hx9
          have hy9 : (orV o)[i]? = some y9 := hy9
          rw [List.getElem?_map] at hx9
          cases hk9 : (orS o)[i]? with
          | none => rw [hk9] at hx9; cases hx9
          | some k9 =>
            rw [hk9] at hx9
            cases hx9
            have x9 : Ex [] H2 (upd H2 T9 (.tup [.str k9, y9])) := .new n9
            have lcs := hp2.len
            rw [List.length_take] at lcs
            refine ⟨T9, [.str k9, y9], rfl, .of upd_same, rfl, _, _, rfl, _, _, rfl, rfl, ?_⟩
            refine ⟨.ref L, rfl, .inl ⟨rfl, _, .of (x9.lst hL2)⟩, some (.ref a), some (.ref L), k9, y9, rfl, fun H4 c x4 hc => ?_⟩
            have hL4 := x4.lst (x9.lst hL2)
            have xp : Ex [L] H4 (upd H4 L (.lst (.str (asK o) :: cs ++ [c]))) := .put hL4 nt_lst (by simp)
            have hi3 : i < 3 := by rw [List.length_map] at hi; omega
            refine ⟨L, _, _, rfl, rfl, hL4, by rw [List.length_cons, sizeLine_eq]; omega, ?_⟩
            refine ⟨_, _, cs ++ [c], rfl, upd_same, ?_, xp.tup (x4.tup (x9.tup hB2)), Ex.own nL ((x2.trans x9).trans x4) (xp.mono (by simp))⟩
            have ez : ((orS o).zip (orV o))[i]? = some (k9, y9) := by rw [List.getElem?_zip_eq_some]; exact ⟨hk9, hy9⟩
            rw [List.take_add_one, ez]
            exact (hp2.imp fun _ _ h => ((h.ex x9).ex x4).ex xp).app (.cons (hc.ex xp) .nil)
        · rintro σ H2 ⟨y2, y3, cs, rfl, hL2, hp2, hB2, x2⟩
          have e6 : min ((orS o).map V.str).length (orV o).length = ((orS o).zip (orV o)).length := by rw [List.length_map, List.length_zip]
          rw [e6, List.take_length] at hp2
          refine ⟨.ref L, rfl, L, _, rfl, .inl ⟨.of hL2, fun T nT => ?_⟩⟩
          have xT : Ex [] H2 (upd H2 T (.tup (.str (asK o) :: cs))) := .new nT
          exact q _ _ (x2.trans xT) ⟨T, _, rfl, .of upd_same, as_ok (hp2.imp fun _ _ h => h.ex xT)⟩
end
end K45

namespace Kk
open PySem PySem.Spec PySem.W PySem.Calls PyProof.Rows L2
/-- the bound ValueError.__init__ called -/
theorem na_call {P : Program} {w : World} {A : Around} {E : Value → Shared → Prop} {s : Shared} {K : PySem.W.Frag} {C a u t1 : Addr} {rest : List Value} {Q : Value → Shared → Prop} (T : OexC K C) (X : K.In s.heap) (hu : s.heap.get? u = some (kxs_mw "ValueError.__init__" a))
    (he : s.heap.get? a = some ({ cls := .ref C, dict := none, data := .fields #[.ref t1, .none, .none, .none, .bool false, .none] } : Obj)) (hz : rest.length ≤ sizeLine)
    (h : ∀ (t' : Addr) h', (∀ b o, b ≠ a → s.heap.get? b = some o → h'.get? b = some o) → h'.get? a = some ({ cls := .ref C, dict := none, data := .fields #[.ref t', .none, .none, .none, .bool false, .none] } : Obj) → Q .none { s with heap := h' }) :
    wpAny (model P w) A (call (.ref u) rest) Q E s := by
  obtain ⟨nm, q, N, bs, bm, sn, sub, ab, col, dd, k0, k1, k2, k3, k5, hC, hbm⟩ := T.cls
  obtain ⟨hh, g, d, tk, os⟩ := s
  refine wpAny_call (codeAny_of_tree ?_)
  show wpAny _ A.in1 (callAny (.ref u) ⟨rest, []⟩) _ _ _
  simp only [callAny]
  refine wpAny_bind (wpAny_load hu ?_)
  simp only [kxs_mw, show (Value.type "method-wrapper" == Value.type "method" || Value.type "method-wrapper" == Value.type "builtin_function_or_method" || Value.type "method-wrapper" == Value.type "method-wrapper") = true by decide, if_true]
  refine KFB.if_so (by decide) ?_
  refine wpAny_bind (check_bound_init F.excBase_ValueError.toExcCallFacts (X _ _ hC) he rfl ?_)
  refine wpAny_bind (wpAny_pure (wpAny_pure ?_))
  refine ⟨plainId_quiet F.excBase_ValueError.init.plain _, codeAny_builtin F.excBase_ValueError.initEntry ?_⟩
  exact exc_init_tree (cls := .ref C) (t0 := t1) (dv := none) (c2 := .none) (c3 := .none) (b4 := .bool false) he hz fun h' k e _ => h _ h' k e
/-- an own error's __init__(self, number): super().__init__(a text), self.number = number -/
def naBody (m : Str) (j : Nat) (p0 p1 p2 p3 p4 p5 q0 q1 q2 q3 : Pos) : List Stmt :=
  [.Expr (.Call (.Attribute (.Call (.Name "super" p0) [] [] p1) "__init__" p2) [.Constant (.str m) j p3] [] p4) p5, .Assign [.Attribute (.Name "self" q0) "number" q1] (.Name "number" q2) q3]
def spNaI (C : Addr) : Sp := fun vs H Q _ => ∃ (a : Addr) (y : V), vs = [.ref a, y] ∧ H a = some (exo a C none) ∧ ∀ dx, H dx = none → dx ≠ a → Q .non (upd (upd H dx (exd dx [("number", y)])) a (exo a C (some dx)))
theorem na_init {CX : CXT} {P : Program} {w : World} {K : PySem.W.Frag} {mg : Str → Option Value} {base : Heap} {k : Nat} {f C cc cda : Addr} {name qual : Str} {params : Arguments} {scope : Scope} {dV kV doc pm ct oc ccl cl : Value} {an od cdd cld : Option Addr} {osl ccs csl : Array (Option Value)} {cvs : Array Value} {file : Str} {tf : Tok} {ar : Arg}
    {m : Str} {j : Nat} {p0 p1 p2 p3 p4 p5 q0 q1 q2 q3 : Pos} {cdC : ClassData}
    (lk : K.lookup f = some ⟨oc, od, .func (ksFn name qual params (naBody m j p0 p1 p2 p3 p4 p5 q0 q1 q2 q3) scope dV kV doc pm an (.ref cda) ct cc), osl⟩) (hcd : codeIn K (.ref cda) qual = true)
    (hp : (params.posonlyargs ++ params.args).head? = some ar) (har : ar.arg = "self") (hcode : K.lookup cda = some ⟨ccl, cdd, .fields cvs, ccs⟩) (hvs : cvs[2]? = some (.str file tf)) (hfile : ((P.main.file : Str) == file) = true)
    (hcell : K.lookup cc = some ⟨cl, cld, .cell (some (.ref C)), csl⟩) (hC : clsIn K C = some cdC) (hself : mroIn K C (.ref C) = some true) (hsuper : mg "super" = none) (htop : (P.main.scope.names.lookup ("super" : Str)).isSome = false)
    (hks : scope.names.lookup ("super" : Str) = some .globalImplicit) (hkc : scope.names.lookup ("__class__" : Str) = some .free) (hka : scope.names.lookup ("self" : Str) = some .local) (hkn : scope.names.lookup ("number" : Str) = some .local) (hk : scope.kind = .function) (hco : scope.isCoroutine = false) (hgen : scope.isGenerator = false) (hnc : ∀ x ∈ scope.names, x.2 ≠ .cell)
    (hm : ks_superIn K C C "__init__" = some (some (.builtin "ValueError.__init__"))) (hB : subIn K (.ref C) (.type "ValueError") = some true) (ho : nsIn K cStatics "thirdparty.any" = some none)
    (hi : ∀ L, interactive (ksEnv qual scope L f (.ref cda) cc) = false) (hs1 : ∀ L, swapsWith (.Call (.Attribute (.Call (.Name "super" p0) [] [] p1) "__init__" p2) [.Constant (.str m) j p3] [] p4) none p5.line (ksEnv qual scope L f (.ref cda) cc) = pure false) (pl : Sem Bool)
    (he : ∀ L, eval (.Call (.Attribute (.Call (.Name "super" p0) [] [] p1) "__init__" p2) [.Constant (.str m) j p3] [] p4) (ksEnv qual scope L f (.ref cda) cc) = (do
      let ov ← attributeBase (.Call (.Name "super" p0) [] [] p1) "__init__" (ksEnv qual scope L f (.ref cda) cc) (eval (.Call (.Name "super" p0) [] [] p1) (ksEnv qual scope L f (.ref cda) cc))
      standAt p2.atName
      let (fn, first) ← holding [ov] (getMethod ov "__init__" pl)
      callWith p4 fn first (backTo p4 (starEach [.Constant (.str m) j p3] (ksEnv qual scope L f (.ref cda) cc))) []))
    (hs2 : ∀ L, swapsWith (.Name "number" q2) (some (.Attribute (.Name "self" q0) "number" q1)) q3.line (ksEnv qual scope L f (.ref cda) cc) = pure false)
    (T : OexC K C) (noF : findIn K (.ref C) "number" = some none) :
    FnOk P w K mg base CX (k + 1) f (ksFn name qual params (naBody m j p0 p1 p2 p3 p4 p5 q0 q1 q2 q3) scope dV kV doc pm an (.ref cda) ct cc) ["self", "number"] (spNaI C) := by
  refine ⟨fun vs H Q E h => ?_, fun A outer s H args us vs Q E hr e0 hb r hsp => ?_⟩
  · obtain ⟨a, y, rfl, _⟩ := h; rfl
  · obtain ⟨a, y, rfl, ha, q⟩ := hsp
    have KX : K.In s.heap := e0.mod.kin.keeps fun b o e => (e0.bs b o e).1
    have lim : s.heap.NoLimit := e0.mod.nolimit.keeps fun b o e => (e0.bs b o e).1
    cases r with
    | @cons _ u0 _ ur r0 r1 =>
      cases r1 with
      | @cons _ u1 _ ur2 r1 r2 =>
        cases r2
        obtain rfl : u0 = Value.ref a := r0
        refine ks_codeAny_call_defAt (fd := ksFn name qual params (naBody m j p0 p1 p2 p3 p4 p5 q0 q1 q2 q3) scope dV kV doc pm an (.ref cda) ct cc) (body := naBody m j p0 p1 p2 p3 p4 p5 q0 q1 q2 q3) (binds := [("self", Value.ref a), ("number", u1)]) hr.depth (KX _ _ lk) rfl lim (codeRec_of KX hcd) rfl hb hnc ?_ (fun h1 hns k1 => ?_) hco hgen hk
        · intro x hx
          simp only [List.mem_cons, List.not_mem_nil, or_false] at hx
          rcases hx with rfl | rfl
          · exact hka
          · exact hkn
        · obtain ⟨hh, g, d, t, os⟩ := s
          have X1 : K.In h1 := KX.keeps k1
          have b1 : ∀ b o, base.get? b = some o → h1.get? b = some o := fun b o e => k1 b o (e0.bs b o e).1
          obtain ⟨t1, hoa⟩ := exo_at e0.hok ha
          have hoa1 := k1 _ _ hoa
          obtain ⟨mb, hb1, hb2⟩ := e0.mod.blt
          obtain ⟨oD, hD1, hD2⟩ : ∃ oD, h1.get? C = some oD ∧ oD.data = .cls cdC := by
            unfold clsIn at hC
            split at hC
            · rename_i c d cd' sl ho
              cases hC
              exact ⟨_, X1 _ _ ho, rfl⟩
            · cases hC
          have hxC : a ≠ C := fun z => by
            rw [z, hD1] at hoa1
            cases hoa1
            cases hD2
          have hcellH : h1.IsCell cc (some (.ref C)) := ⟨_, X1 _ _ hcell, rfl⟩
          refine ks_wpAt_execs_cons (ks_wpAt_Expr_any (ks_wpAt_MethodCall (pl := pl) ?_ (he _)) (hi _) (hs1 _))
          refine ks_wpAt_super_base hks hkc rfl rfl (X1 _ _ lk) rfl hp rfl (X1 _ _ hcode) rfl hvs hfile htop ?_
          refine ks_loadName_global hk hks (loadGlobal_builtin (e0.mod.glob.keeps b1) hsuper (hb1.keeps b1) ((hb2 "super" (by decide)).trans (by first | boot_by_name | rfl | kernel_rfl)) ⟨rfl, ?_⟩)
          refine wpAny_loadName_free hk hkc rfl hcellH ?_
          rw [har]
          refine wpAny_loadName_local hk hka hns rfl ?_
          refine ks_wpAny_isType_cls hD1 hD2 ⟨rfl, ?_⟩
          refine ks_wpAny_call_super hD1 hD2 hoa1 rfl (fun c e => nomatch e) (looks_mroIn X1 hself) (fun h2 e2 k2 => ?_)
          have X2 : K.In h2 := X1.keeps k2
          have hoa2 := k2 _ _ hoa1
          have I2 : InstAt h2 a ({ cls := .ref C, dict := none, data := .fields #[.ref t1, .none, .none, .none, .bool false, .none] } : Obj) C none := ⟨hoa2, rfl, rfl, trivial⟩
          have hm2 := hm
          unfold ks_superIn at hm2
          rw [hC] at hm2
          refine kxs_getMethod kxs_ValueError e2 (looks_opaque X2 ho) (l₀ := cdC.mro) (fun A Q E s k q => wpAny_bind ((looks_clsIn X2 hC) A _ E s k (wpAny_pure q))) rfl X2 hm2 (I2.type.andThen (looks_subIn X2 hB)) hxC (by decide) ?_
          show wpAny _ _ (callWith p4 (.ref h2.objs.size) [] (backTo p4 ((false, eval (.Constant (.str m) j p3) (ksEnv qual scope hh.objs.size f (.ref cda) cc)) :: [])) []) _ _ _
          refine kxs_callWith (i := "ValueError.__init__") (x := a) rfl (evalArgs_plain (spliced_cons (Calls.Constant_str (k := j) (pos := p3) (spliced_nil ⟨?_, ?_⟩))))
          · exact Heap.get?_push_at rfl rfl
          have k3 : ∀ b o, h2.get? b = some o → (h2.push (kxs_mw "ValueError.__init__" a)).get? b = some o := fun b o e => Heap.get?_push_of_some _ e
          refine na_call T (X2.keeps k3) (Heap.get?_push_at rfl rfl) (k3 _ _ hoa2) (by show 1 ≤ sizeLine; decide) fun t2 h4 k4 hoa4 => ?_
          refine wpAt_of_wpAny (wpAny_execs_cons (plainObj_wpAny_Assign_Attribute ?_ (hs2 _)))
          have fna : hh.objs.size ≠ a := (Nat.ne_of_lt (Heap.lt_size hoa)).symm
          have hns4 : h4.Ns hh.objs.size (fun x => ([("self", Value.ref a), ("number", u1)] : List (Str × Value)).reverse.lookup x) := by
            obtain ⟨oL, es, ep, hL, rr⟩ := hns
            exact ⟨oL, es, ep, k4 _ _ fna (k3 _ _ (k2 _ _ hL)), rr⟩
          refine wpAny_Name (wpAny_loadName_local hk hkn hns4 rfl ?_) (by decide)
          refine wpAny_Name (wpAny_loadName_local hk hka hns4 rfl ?_) (by decide)
          have kk : ∀ b o, b ≠ a → hh.get? b = some o → h4.get? b = some o := fun b o n e => k4 _ _ n (k3 _ _ (k2 _ _ (k1 _ _ e)))
          have X4 : K.In h4 := fun b o e => by
            obtain ⟨e1, e2⟩ := e0.bs b o (e0.mod.kin b o e)
            exact kk b o (fun z => by rw [z, ha] at e2; cases e2) e1
          obtain ⟨nm, qn, N, bs, bm, sn, sub, ab, col, dd, z0, z1, z2, z3, z5, hCl, hbm⟩ := T.cls
          have hcl : PySem.W.clsIn K C = some { name := nm, bases := bs, mro := .ref C :: bm, ns := N, qualname := qn, hasDict := true, slotNames := sn, subclasses := sub, abstract := ab, collection := col, hasDel := false } := by unfold PySem.W.clsIn; rw [hCl] <;> rfl
          refine PySem.W.set_plain X4 (ox := { cls := .ref C, dict := none, data := .fields #[.ref t2, .none, .none, .none, .bool false, .none] }) (od := none) ⟨hoa4, rfl, rfl, trivial⟩ T.sa ?_
          refine PySem.HandSPX.exc_osa X4 hoa4 hcl (show PySem.HandSPX.refsVE (.ref C :: bm) = true from hbm) rfl noF (fun h5 tk5 dx k5 dn dne hx5 hn5 => ?_)
          have sz : hh.objs.size ≤ dx := by
            refine Nat.le_trans ?_ dn
            obtain ⟨oL, es, ep, hL, rr⟩ := hns4
            exact Nat.le_of_lt (Heap.lt_size hL)
          have hnd : H dx = none := e0.hok.fresh sz
          have k05 : ∀ b o, b ≠ a → hh.get? b = some o → h5.get? b = some o := fun b o n e => k5 _ _ n (kk b o n e)
          have nd : ∀ {b : Addr} {o : Obj}, hh.get? b = some o → b ≠ dx := fun {b o} q => Nat.ne_of_lt (Nat.lt_of_lt_of_le (Heap.lt_size q) sz)
          have na : ∀ {b : Addr}, H b = none → b ≠ a := fun {b} n z => by
            rw [z, ha] at n
            cases n
          have Un1 : Un (frs outer) [] H (upd (upd H dx (exd dx [("number", y)])) a (exo a C (some dx))) hh h5 := {
            keep := fun b o q n _ _ => k05 b o (na n) q
            slot := fun b o q n _ _ => ⟨o.slots, k05 b o (na n) q⟩
            free := fun b o q n _ => by rw [upd_ne (na n), upd_ne (nd q)]; exact n
            there := fun b o q _ => by
              by_cases hb : b = a
              · exact ⟨_, by rw [hb]; exact hx5⟩
              · exact ⟨o, k05 b o hb q⟩
            tups := fun b xs q => by rw [upd_ne (at_ne ha q exo_tup), upd_ne (ne_of_none q hnd)]; exact q
            frzs := fun b o v q => by rw [upd_ne (at_ne ha q exo_frz), upd_ne (ne_of_none q hnd)]; exact q
            tbls := fun b ps q => ⟨#[], by rw [upd_ne (at_ne ha q exo_tbl), upd_ne (ne_of_none q hnd), q]; simp⟩ }
          refine wpAny_execs_nil ?_
          refine ⟨.non, _, rfl, e0.bare, Un1, fun b o q => ?_, rfl, q dx hnd dne⟩
          by_cases hb : b = a
          · subst hb
            rw [upd_same] at q
            cases q
            exact exo_ok hx5
          · rw [upd_ne hb] at q
            by_cases hd : b = dx
            · subst hd
              rw [upd_same] at q
              cases q
              exact exd_ok hn5 (relO_put (fs := []) r1 fun g => True.intro)
            · rw [upd_ne hd] at q
              exact (e0.hok b o q).stay (fun c v hc z => k05 c v (by
                  rcases hc with hc | hc
                  · rw [hc]
                    exact hb
                  · exact at_ne ha hc exo_own) z)
                (fun c hc => by rw [upd_ne (at_ne ha hc exo_own), upd_ne (ne_of_none hc hnd)]; exact hc) (fun c xs hc => by rw [upd_ne (at_ne ha hc exo_tup), upd_ne (ne_of_none hc hnd)]; exact hc)
end Kk

set_option maxHeartbeats 4000000
namespace K45
open PySem PySem.Spec PyProof.Rows L2 Kk RZ
/-- an answer: a whole number, or something else -/
inductive AnsV (K : PySem.W.Frag) (H : Hp) : V → Option Int → Prop
  | int (n : Int) : AnsV K H (.int n) (some n)
  | bl (b : Bool) : AnsV K H (.bl b) none
  | non : AnsV K H .non none
  | str (s : Str) : AnsV K H (.str s) none
  | tup {a : Addr} {xs : List V} (h : SqT K H a xs) : AnsV K H (.ref a) none
theorem AnsV.ex {K : PySem.W.Frag} {H H' : Hp} {v : V} {o : Option Int} {xs : List Addr} (h : AnsV K H v o) (e : Ex xs H H') : AnsV K H' v o := by
  cases h with
  | int n => exact .int n
  | bl b => exact .bl b
  | non => exact .non
  | str s => exact .str s
  | tup h => exact .tup (e.seqT h)
theorem sq_tyT {K : PySem.W.Frag} {H : Hp} {a : Addr} {xs : List V} (h : SqT K H a xs) : TyX K H (.ref a) (.type "tuple") := by
  rcases h with (h | ⟨o, h⟩) | ⟨o, its, n, h1, h2, _⟩
  · exact .base (.tup h)
  · exact .fTuple h
  · exact .kTuple h1 h2
/-- what the written part says of NoAnswer -/
structure NaT (K : PySem.W.Frag) (mg : Str → Option Value) (CN fI : Addr) : Prop where
  gC : mg "NoAnswer" = some (.ref CN)
  T : OexC K CN
  iC : PySem.W.findIn K (.ref CN) "__init__" = some (some (.ref fI))
  tI : PySem.W.typeIn K (.ref fI) = some (.type "function")
/-- the way out: the number of the answer -/
def OutN (CN : Addr) (E : XK) (wt : Nat) (H : Hp) : Prop := ∀ H' d, Ex [] H H' → H d = none → H' d = some (.xd [("number", .int (wt : Nat))]) → E (.ref CN) (some d) H'
theorem na_heap {H : Hp} {a d : Addr} {o1 o2 o3 o4 : HO} (ha : H a = none) : upd (del (upd (upd (upd H a o1) d o2) a o3) a) d o4 = upd H d o4 := by
  funext b
  by_cases hd : b = d
  · rw [hd, upd_same, upd_same]
  · rw [upd_ne hd, upd_ne hd]
    by_cases h : b = a
    · rw [h, del_same, ha]
    · rw [del_ne h, upd_ne h, upd_ne hd, upd_ne h]
/-- NoAnswer(number) made and let out -/
theorem mk_out {K : PySem.W.Frag} {CN : Addr} {H : Hp} {E : XK} {wt : Nat} (out : OutN CN E wt H) (a : Addr) (na : H a = none) : spNaI CN [.ref a, .int (wt : Nat)] (upd H a (exo a CN none))
    (fun v H2 => v = .non ∧ ∃ (d : Addr) (fs : List (Str × V)), H2 a = some (exo a CN (some d)) ∧ H2 d = some (exd d fs) ∧ H d = none ∧ E (.ref CN) (some d) (upd (del H2 a) d (.xd fs))) (fun _ _ _ => False) := by
  refine ⟨a, .int (wt : Nat), rfl, upd_same, fun d nd da => ⟨rfl, d, [("number", .int (wt : Nat))], upd_same, by rw [upd_ne da, upd_same], by rw [upd_ne da] at nd; exact nd, ?_⟩⟩
  have nd0 : H d = none := by rw [upd_ne da] at nd; exact nd
  rw [na_heap na]
  exact out _ d (.new nd0) nd0 upd_same
section
variable {P : Program} {w : World} {K : PySem.W.Frag} {mg : Str → Option Value} {base : Heap}
def spWholeV (K : PySem.W.Frag) : Sp := fun vs H Q _ => ∃ (v : V) (o : Option Int), vs = [v] ∧ AnsV K H v o ∧ Q (.bl o.isSome) H
theorem ok_wholeV {f : Addr} {fd : FuncData} {k : Nat} (F : Fun K "is_whole" "is_whole" s_is_whole f fd) (m_isinstance : mg "isinstance" = none) (m_int : mg "int" = none) (m_bool : mg "bool" = none) : FnOk P w K mg base CX0 (k + 1) f fd ["thing"] (spWholeV K) := by
  refine F.ok sc_is_whole (fun vs H Q E h => ?_) (fun cdv A outer s H vs Q E hr h => ?_)
  · obtain ⟨v, o, rfl, _⟩ := h; rfl
  · obtain ⟨v, o, rfl, ha, q⟩ := h
    refine ⟨_, (pss_one (ps_ret (pe_and (pe_callB call_isi (by rfl) m_isinstance (by decide +kernel) (pa_cons (pv 0) (pa_cons (pe_bltn (v := .ty "int") (by rfl) m_int (by decide +kernel) rfl) pa_nil))) (pe_one (pe_not (pe_callB call_isi (by rfl) m_isinstance (by decide +kernel) (pa_cons (pv 0) (pa_cons (pe_bltn (v := .ty "bool") (by rfl) m_bool (by decide +kernel) rfl) pa_nil)))))))), ?_⟩
    cases ha with
    | int n =>
      refine ⟨.int n, rfl, .int n, .ty "int", .type "int", .type "int", true, rfl, .ty "int", .base (.int n), kit_ty (by decide +kernel), _, rfl, iteT ?_⟩
      exact ⟨.int n, rfl, .int n, .ty "bool", .type "int", .type "bool", false, rfl, .ty "bool", .base (.int n), kit_ty (by decide +kernel), _, rfl, q⟩
    | bl b =>
      refine ⟨.bl b, rfl, .bl b, .ty "int", .type "bool", .type "int", true, rfl, .ty "int", .base (.bl b), kit_ty (by decide +kernel), _, rfl, iteT ?_⟩
      exact ⟨.bl b, rfl, .bl b, .ty "bool", .type "bool", .type "bool", true, rfl, .ty "bool", .base (.bl b), kit_ty (by decide +kernel), _, rfl, q⟩
    | non => exact ⟨.non, rfl, .non, .ty "int", .type "NoneType", .type "int", false, rfl, .ty "int", .base .non, kit_ty (by decide +kernel), _, rfl, iteF q⟩
    | str s => exact ⟨.str s, rfl, .str s, .ty "int", .type "str", .type "int", false, rfl, .ty "int", .base (.str s), kit_ty (by decide +kernel), _, rfl, iteF q⟩
    | tup h => exact ⟨.ref _, rfl, .ref _, .ty "int", .type "tuple", .type "int", false, rfl, .ty "int", sq_tyT h, kit_ty (by decide +kernel), _, rfl, iteF q⟩
def spNextX (K : PySem.W.Frag) (CR CN : Addr) : Sp := fun vs H Q E => ∃ (nw an tl fl : Addr) (wt : Nat) (ch : Int) (xs : List V), vs = [.ref nw, .int ch] ∧ RnH CR H nw an tl fl wt ∧ SqT K H an xs ∧ wt ≤ xs.length ∧
  (∀ v, xs[wt]? = some v → ∃ o, AnsV K H v o ∧ ((∃ a, o = some a ∧ 0 ≤ a ∧ a < ch ∧ ∀ H', Ex [nw] H H' → RnH CR H' nw an tl fl (wt + 1 : Nat) → Q (.int a) H') ∨ (¬ (∃ a, o = some a ∧ 0 ≤ a ∧ a < ch) ∧ OutN CN E wt H))) ∧ (wt = xs.length → OutN CN E wt H)
theorem ok_nextX {f CR CN fI f1 : Addr} {fd dI d1 : FuncData} {k : Nat} (F : Fun K "next_answer" "Run.next_answer" s_next f fd) (T : TR K mg CR) (TN : NaT K mg CN fI) (GI : FnOk P w K mg base CX0 k fI dI ["self", "number"] (spNaI CN)) (bI : Binds K dI ["self", "number"] []) (C_whole : Cl P w K mg base (k + 1) "is_whole" ["thing"] (spWholeV K) f1 d1) (m_len : mg "len" = none) : FnOk P w K mg base (L2.CX P w) (k + 2) f fd ["self", "choices"] (spNextX K CR CN) := by
  refine F.okX sc_next (fun vs H Q E h => ?_) (fun cdv A outer s H vs Q E hr h => ?_)
  · obtain ⟨nw, an, tl, fl, wt, ch, xs, rfl, _⟩ := h; rfl
  · obtain ⟨nw, an, tl, fl, wt, ch, xs, rfl, ⟨dx, fs, h1, h2, h3, h4, h5, h6, h7⟩, hs, hle, q1, q2⟩ := h
    refine ⟨_, (pss_cons (ps_if (pt_cmpR op_eq (pe_fld (pv 0) rfl) (pe_callB call_len_seq (by rfl) m_len PySem.boot_len (pa_cons (pe_fld (pv 0) rfl) pa_nil)) (nomark _)) (pss_one (ps_raise rfl (takes_of rfl rfl rfl rfl) (pmk_oex TN.T TN.iC TN.tI GI hr bI .nil pass0 (by rfl) TN.gC (pa_cons (pe_fld (pv 0) rfl) pa_nil)))) pss_nil)
      (pss_cons (ps_set (i := 2) sc_next.nd rfl (.inl rfl) (pe_ix ix_tup (pe_fld (pv 0) rfl) (pe_fld (pv 0) rfl) (fun _ _ => rfl)))
      (pss_cons (ps_if (PW.pt (pw_or (pt_not (pt_val (pe_call C_whole.g hr (by rfl) C_whole.m C_whole.k C_whole.b .nil pass0 (pa_cons (pv 2) pa_nil)))) (pw_or1 (pt_not (pt_chain op_le op_lt pe_int (pv 2) (pv 1)))))) (pss_one (ps_raise rfl (takes_of rfl rfl rfl rfl) (pmk_oex TN.T TN.iC TN.tI GI hr bI .nil pass0 (by rfl) TN.gC (pa_cons (pe_fld (pv 0) rfl) pa_nil)))) pss_nil)
      (pss_cons (ps_fldaug (pv 0) pe_int ip_add)
      (pss_one (ps_ret (pv 2))))))), ?_⟩
    refine ⟨.ref nw, rfl, nw, CR, dx, fs, .int wt, rfl, h1, T.cl, T.n2, h3, .ref nw, rfl, nw, CR, dx, fs, .ref an, rfl, h1, T.cl, T.n1, h2, an, xs, rfl, .inr hs, rfl, _, rfl, ite2 (fun e => ?_) fun e => ?_⟩
    · have ew : wt = xs.length := by
        have := V.int.inj (of_decide_eq_true e)
        omega
      exact ⟨.ref nw, rfl, nw, CR, dx, fs, .int wt, rfl, h1, T.cl, T.n2, h3, (by show 1 ≤ 1000; decide), fun a na => mk_out (K := K) (q2 ew) a na⟩
    · have wl : wt < xs.length := by
        have : ¬ wt = xs.length := fun z => e (decide_eq_true (by rw [z]))
        omega
      have hx := List.getElem?_eq_getElem wl
      obtain ⟨o, ho, q3⟩ := q1 _ hx
      refine ⟨.ref nw, rfl, nw, CR, dx, fs, .ref an, rfl, h1, T.cl, T.n1, h2, .ref nw, rfl, nw, CR, dx, fs, .int wt, rfl, h1, T.cl, T.n2, h3, an, xs, wt, xs[wt], rfl, rfl, hs, atI_nat hx, ?_⟩
      have out : OutN CN E wt H → ∀ {σ : L2.St}, σ = [some (.ref nw), some (.int ch), some xs[wt]] → tMkO CN (spNaI CN) [] (tCons (tFld (cxOf (L2.CX P w) P w K mg base ["self", "choices", "answer"] "Run.next_answer" (defScope s_next) f cdv A outer s H E).K (tVar 0) "wanted") tNil) σ H E := fun ou σ es => by
        subst es
        exact ⟨.ref nw, rfl, nw, CR, dx, fs, .int wt, rfl, h1, T.cl, T.n2, h3, (by show 1 ≤ 1000; decide), fun a na => mk_out (K := K) ou a na⟩
      refine ⟨xs[wt], rfl, xs[wt], o, rfl, ho, _, rfl, ?_⟩
      rcases q3 with ⟨a, rfl, a0, a1, q3⟩ | ⟨nb, ou⟩
      · have ev : xs[wt] = .int a := by
          generalize xs[wt] = z at ho
          cases ho; rfl
        rw [ev]
        refine iteF ?_
        refine ⟨.int a, rfl, 0, a, rfl, rfl, _, rfl, ?_⟩
        rw [decide_eq_true a0]
        refine iteT ⟨.int ch, rfl, a, ch, rfl, rfl, _, rfl, ?_⟩
        rw [decide_eq_true a1]
        refine iteF ?_
        refine ⟨.ref nw, rfl, nw, CR, dx, fs, .int wt, rfl, h1, T.cl, T.n2, h3, wt, 1, rfl, rfl, dx, fs, h1, by omega, .int a, rfl, ?_⟩
        refine q3 _ (.put h1 (fun _ z => by cases z) (by simp)) ⟨dx, _, upd_same, ?_, ?_, ?_, ?_, ?_, ?_⟩
        · rw [lookup_putF, if_neg (by decide +kernel)]; exact h2
        · rw [lookup_putF, if_pos rfl]; rfl
        · rw [lookup_putF, if_neg (by decide +kernel)]; exact h4
        · rw [lookup_putF, if_neg (by decide +kernel)]; exact h5
        · rw [lookup_putF, if_neg (by decide +kernel)]; exact h6
        · rw [putF_len (by rw [h3]; simp)]; exact h7
      · cases o with
        | none =>
          refine iteT (out ou rfl)
        | some a =>
          have ev : xs[wt] = .int a := by
            generalize xs[wt] = z at ho
            cases ho; rfl
          refine iteF ?_
          rw [ev]
          refine ⟨.int a, rfl, 0, a, rfl, rfl, _, rfl, ?_⟩
          by_cases a0 : 0 ≤ a
          · rw [decide_eq_true a0]
            refine iteT ⟨.int ch, rfl, a, ch, rfl, rfl, _, rfl, ?_⟩
            rw [decide_eq_false fun a1 => nb ⟨a, rfl, a0, a1⟩]
            exact iteT (out ou (by rw [ev]; rfl))
          · rw [decide_eq_false a0]
            exact iteF ⟨_, rfl, iteT (out ou (by rw [ev]; rfl))⟩
end
end K45

set_option maxHeartbeats 4000000
namespace Kk
open PySem PySem.Spec PyProof.Rows L2
theorem pg_tupK {X : Cx} {K : PySem.W.Frag} {es : List Expr} {k : Nat} {t : TGs} {n : Nat} {pos : Pos} (hK : X.K = K) (hc : X.calm = true) (h : PGs X es t) (hn : (assignEach es X.env).length = n := by rfl) (hst : (assignEach es X.env).findIdx? (·.1) = none := by rfl) :
    PG X (.Tuple es k pos) (gTup K n t) := by subst hK; exact pg_tup hc h hn hst
theorem ints_tp {K : PySem.W.Frag} {H : Hp} : ∀ l : List Int, TpAll K H (l.map V.int) (l.map PyData.int)
  | [] => .nil
  | a :: l => .cons (.int a) (ints_tp l)
end Kk
namespace K45
open PySem PySem.Spec PyProof.Rows L2 Kk RZ
abbrev s_run : Stmt := topS 37
abbrev n_run : List Str := ["code", "answers", "now", "frame", "order", "word", "choices", "answer", "left", "box", "number", "worths"]
theorem sc_run : FnScope n_run ["code", "answers"] (defScope s_run) := ⟨rfl, rfl, rfl, by decide +kernel, rfl, by decide +kernel, by decide +kernel⟩
noncomputable def go : (Bq → Wv) → List Int → List Int → List Or → (Bq → Wv) × List Int
  | f, td, _, [] => (f, td)
  | f, td, as, o :: os => if chW (asW o) > 0 then (match as with
      | a :: as' => go (stF f a (asW o)) (td ++ tellW f (asW o)) as' os
      | [] => (f, td)) else go (stF f 0 (asW o)) (td ++ tellW f (asW o)) as os
def wants : List Or → Nat
  | [] => 0
  | o :: os => (if chW (asW o) > 0 then 1 else 0) + wants os
def f0 : Bq → Wv := fun _ => (0, [])
def LeftOk (f : Bq → Wv) (L : List Bq) : Prop := L.Pairwise leB ∧ L.Nodup ∧ ∀ q, q ∈ L ↔ ¬ (f q).2 = []
def leftD (f : Bq → Wv) (q : Bq) : PyData := .tuple [.str q.1, .int (q.2 : Int), .tuple ((f q).2.map .str)]
def resD (td : List Int) (f : Bq → Wv) (L : List Bq) : PyData := .tuple [.tuple (td.map .int), .tuple (L.map (leftD f))]
def orOk (Ws : List Str) : Or → Prop
  | .take _ s => s ∈ Ws
  | _ => True
theorem okW_of {Ws : List Str} {o : Or} (h : orOk Ws o) : okW [hnd, slt] Ws (asW o) := by
  cases o with
  | take x s => exact ⟨by simp [asW], h⟩
  | lay x y => show slt ∈ [hnd, slt]; simp
  | clean x => show slt ∈ [hnd, slt]; simp
  | ask x => show hnd ∈ [hnd, slt]; simp
  | number x n => show hnd ∈ [hnd, slt]; simp
  | copy x y => show hnd ∈ [hnd, slt]; simp
  | mix x y z => show hnd ∈ [hnd, slt]; simp
  | opn x y => show hnd ∈ [hnd, slt]; simp
  | tell x => show hnd ∈ [hnd, slt]; simp
  | wipe x => show hnd ∈ [hnd, slt]; simp
  | fetch x y => show hnd ∈ [hnd, slt]; simp
theorem ch_cases (W : Wo) : chW W = 10000 ∨ chW W = 0 := by cases W <;> first | exact .inl rfl | exact .inr rfl
theorem kd_ok : ∀ s ∈ [hnd, slt], PyData.strOk s = true := by decide +kernel
theorem hd_new {K : PySem.W.Frag} {H : Hp} {b : Addr} {kd Ws : List Str} (h : H b = some (.dT [])) : Hd K H b kd Ws 0 f0 :=
  ⟨[], h, Nat.le_refl _, (by simp), (fun kv m => nomatch m), (fun q v e => nomatch e), (fun q _ => rfl), fun q => ⟨(by simp [f0]), fun s m => nomatch m⟩⟩
theorem OutN.ex {CN : Addr} {E : XK} {wt : Nat} {H H' : Hp} (h : OutN CN E wt H) (e : Ex [] H H') : OutN CN E wt H' := fun H2 d x nd hd => h H2 d (e.trans x) (e.f d nd) hd
/-- the next answer, or 0 -/
def tAns (K : PySem.W.Frag) (CR CN : Addr) (E : XK) : TE := fun σ H Q => ∃ (y0 y1 y3 y4 y5 y7 y8 y9 y10 y11 : Option V) (nw an tl fl : Addr) (wt : Nat) (ch : Int) (avs : List V), σ = [y0, y1, some (.ref nw), y3, y4, y5, some (.int ch), y7, y8, y9, y10, y11] ∧ RnH CR H nw an tl fl wt ∧ SqT K H an avs ∧ wt ≤ avs.length ∧
  (ch > 0 → (∀ v, avs[wt]? = some v → ∃ o, AnsV K H v o ∧ ((∃ a, o = some a ∧ 0 ≤ a ∧ a < ch ∧ ∀ H', Ex [nw] H H' → RnH CR H' nw an tl fl (wt + 1 : Nat) → Q (.int a) H') ∨ (¬ (∃ a, o = some a ∧ 0 ≤ a ∧ a < ch) ∧ OutN CN E wt H))) ∧ (wt = avs.length → OutN CN E wt H)) ∧ (¬ ch > 0 → Q (.int 0) H)
section
variable {P : Program} {w : World} {K : PySem.W.Frag} {mg : Str → Option Value} {base : Heap}
def spRun (K : PySem.W.Frag) (CN : Addr) : Sp := fun vs H Q E => ∃ (c an : Addr) (xs avs : List V) (os : List Or) (as : List Int) (Ws : List Str), vs = [.ref c, .ref an] ∧ SqT K H c xs ∧ TpAll K H xs (os.map orD) ∧ os.length ≤ 100 ∧ (∀ o ∈ os, orOk Ws o) ∧ SqT K H an avs ∧ as.length ≤ wants os ∧ as.length ≤ avs.length ∧
  (∀ (i : Nat) (a : Int), as[i]? = some a → avs[i]? = some (V.int a)) ∧ (∀ a ∈ as, 0 ≤ a ∧ a < 10000) ∧ Ws.length ≤ 20 ∧ (∀ s ∈ Ws, PyData.strOk s = true) ∧
  (as.length = wants os → ∀ (H' : Hp) (v : V) (L : List Bq), Ex [] H H' → LeftOk (go f0 [] as os).1 L → Tp K H' v (resD (go f0 [] as os).2 (go f0 [] as os).1 L) → Q v H') ∧
  (as.length < wants os → (as.length = avs.length ∨ ∃ v o, avs[as.length]? = some v ∧ AnsV K H v o ∧ ¬ ∃ a, o = some a ∧ 0 ≤ a ∧ a < 10000) ∧ OutN CN E as.length H)
theorem ok_run {f CF CR CN npA fRI fN fHd f1 f2 f3 : Addr} {fd dRI dN dHd d1 d2 d3 : FuncData} {k : Nat} (F : Fun K "run_code" "run_code" s_run f fd) (T : TR K mg CR) (TFr : TF K mg CF) (MR : Mk K CR fRI)
    (GRI : FnOk P w K mg base CX0 k fRI dRI ["self", "program", "answers"] (spRInit CF CR)) (bRI : Binds K dRI ["self", "program", "answers"] [])
    (GN : FnOk P w K mg base (L2.CX P w) (k + 1) fN dN ["self", "choices"] (spNextX K CR CN)) (mN : Meth K CR "next_answer" fN) (bN : Binds K dN ["self", "choices"] [])
    (GHd : FnOk P w K mg base CX0 (k + 1) fHd dHd ["self"] (spHeld K CF)) (mHd : Meth K CF "held" fHd) (bHd : Binds K dHd ["self"] [])
    (C_as : Cl P w K mg base (k + 1) "as_word" ["order"] (spAs K) f1 d1) (C_ch : Cl P w K mg base (k + 1) "choices_of" ["word"] (spChoices K) f2 d2) (C_do : Cl P w K mg base (k + 1) "do_boxes" ["now", "frame", "word", "answer"] (spDo K CF CR) f3 d3)
    (g_NP : mg "NO_PROGRAM" = some (.ref npA)) (m_tuple : mg "tuple" = none) (m_len : mg "len" = none) : FnOk P w K mg base (L2.CX P w) (k + 2) f fd ["code", "answers"] (spRun K CN) := by
  refine F.okX sc_run (fun vs H Q E h => ?_) (fun cdv A outer s H vs Q E hr h => ?_)
  · obtain ⟨c, an, xs, avs, os, as, Ws, rfl, _⟩ := h; rfl
  · obtain ⟨c, an, xs, avs, os, as, Ws, rfl, hc, hx, hlo, hoo, han, hlas, hlav, hget, hrng, hWl, hWs, q, qx⟩ := h
    refine ⟨_, (pss_cons (ps_set (i := 2) sc_run.nd rfl (.inl rfl) (pe_make MR GRI hr (by rfl) T.mgC bRI .nil pass0 (pa_cons (pe_glob (v := .ref npA) rfl g_NP rfl) (pa_cons (pv 1) pa_nil))))
      (pss_cons (ps_set (i := 3) sc_run.nd rfl (.inl rfl) (pe_ix ix_list (pe_fld (pv 2) rfl) pe_int (fun _ _ => rfl)))
      (pss_cons (ps_for (passes_of rfl) rfl (pi_tup (pv 0)) (pg_name (i := 4) sc_run.nd rfl (.inl rfl)) (pss_cons (ps_set (i := 5) sc_run.nd rfl (.inl rfl) (pe_call C_as.g hr (by rfl) C_as.m C_as.k C_as.b .nil pass0 (pa_cons (pv 4) pa_nil))) (pss_cons (ps_set (i := 6) sc_run.nd rfl (.inl rfl) (pe_call C_ch.g hr (by rfl) C_ch.m C_ch.k C_ch.b .nil pass0 (pa_cons (pv 5) pa_nil)))
        (pss_cons (ps_set (i := 7) sc_run.nd rfl (.inl rfl) (PE.by (t' := tAns K CR CN E) (pe_ifExp (pt_cmpR op_gt (pv 6) pe_int (nomark _)) (pe_meth (pv 2) T.cl mN GN hr bN .nil (passes_call (takes_of rfl rfl rfl rfl) (fun _ _ _ _ h => h)) (pa_cons (pv 6) pa_nil)) pe_int) (by
          rintro σ H Q ⟨y0, y1, y3, y4, y5, y7, y8, y9, y10, y11, nw, an, tl, fl, wt, ch, avs, rfl, hR, ha, hle, q1, q2⟩
          refine ⟨.int ch, rfl, ch, 0, rfl, rfl, _, rfl, ite2 (fun e => ?_) fun e => ?_⟩
          · obtain ⟨h1, h2⟩ := q1 (of_decide_eq_true e)
            obtain ⟨dx, fs, r1, r2, r3, r4, r5, r6, r7⟩ := id hR
            exact ⟨.ref nw, rfl, nw, dx, fs, rfl, r1, r6, .int ch, rfl, nw, an, tl, fl, wt, ch, avs, rfl, hR, ha, hle, h1, h2⟩
          · exact q2 fun z => e (decide_eq_true z))))
        (pss_one (ps_expr (pe_call C_do.g hr (by rfl) C_do.m C_do.k C_do.b .nil pass0 (pa_cons (pv 2) (pa_cons (pv 3) (pa_cons (pv 5) (pa_cons (pv 7) pa_nil)))))))))))
      (PSs.nox (pss_cons (ps_setLc (i := 8) (own := [("box", 9), ("number", 10), ("worths", 11)]) (g := gTup K 3 (gCons (gName 9) (gCons (gName 10) (gCons (gName 11) gNil)))) rfl sc_run.nd rfl rfl (sw_true rfl rfl rfl (by decide +kernel)) (pi_tup (pe_meth0 (pv 3) TFr.cl mHd GHd hr bHd .nil pass0))
          (blkOk_by (N := n_run) (sc := defScope s_run) (by decide +kernel)) (fun _ _ _ _ _ => pg_tupK (K := K) rfl rfl (pgs_cons (pg_name (i := 9) sc_run.nd rfl (Or.inl rfl)) (pgs_cons (pg_name (i := 10) sc_run.nd rfl (Or.inl rfl)) (pgs_cons (pg_name (i := 11) sc_run.nd rfl (Or.inl rfl)) pgs_nil))))
          (fun _ _ _ _ _ => pts_one (pt_cmpR op_gt (pe_callB (call_lenK (K := K) rfl) (by rfl) m_len PySem.boot_len (pa_cons (pv 11) pa_nil)) pe_int (nomark _)))
          (fun _ _ _ _ _ => pe_op (op_catB (K := K) rfl) (pv 9) (pe_tup (pa_cons (pv 11) pa_nil))))
      (pss_one (ps_ret (pe_tup (pa_cons (pe_callTy call_tuple_of (by rfl) m_tuple (by decide +kernel) (pa_cons (pe_fld (pv 2) rfl) pa_nil)) (pa_cons (pe_callTy call_tuple_of (by rfl) m_tuple (by decide +kernel) (pa_cons (pv 8) pa_nil)) pa_nil)))))))))), ?_⟩
    refine ⟨.ref an, rfl, fun nw dx nnw ndx nex => ?_⟩
    have xd : Ex [nw] H (upd H dx (.own nw)) := .new ndx
    have nnw2 : (upd H dx (.own nw)) nw = none := by rw [upd_ne nex.symm]; exact nnw
    have xn : Ex [nw] (upd H dx (.own nw)) (upd (upd H dx (.own nw)) nw (.ins CR dx [])) := .new nnw2
    refine ⟨nw, dx, an, .ref npA, rfl, upd_same, fun H1 fr b tl fl pl x1 nfr nb ntl nfl hR1 hF1 hb1 htl1 hfl1 => ⟨rfl, ?_⟩⟩
    have nfr0 : H fr = none := upd_free (upd_free nfr)
    have nb0 : H b = none := upd_free (upd_free nb)
    have ntl0 : H tl = none := upd_free (upd_free ntl)
    have x01 : Ex [nw] H H1 := (xd.trans xn).trans x1
    have x01n : Ex [] H H1 := Ex.own nnw .refl x01
    obtain ⟨dx1, fs1, r1, r2, r3, r4, r5, r6, r7⟩ := id hR1
    refine ⟨.ref nw, rfl, nw, CR, dx1, fs1, .ref fl, rfl, r1, T.cl, T.n7, r5, fl, _, 0, .ref fr, rfl, rfl, .of hfl1, at0, ?_⟩
    obtain ⟨dxF, fsF, q1, q2, q3, q4, q5, q6⟩ := id hF1
    have nwb : nw ≠ b := ne_of r1 hb1 (by intro z; cases z)
    have nwtl : nw ≠ tl := ne_of r1 htl1 (by intro z; cases z)
    have btl : b ≠ tl := ne_of hb1 htl1 (by intro z; cases z)
    have frb : fr ≠ b := ne_of q1 hb1 (by intro z; cases z)
    have frtl : fr ≠ tl := ne_of q1 htl1 (by intro z; cases z)
    have nwfr : nw ≠ fr := fun z => by rw [← z, upd_same] at nfr; cases nfr
    have lx := hx.len
    rw [List.length_map] at lx
    refine ⟨.ref c, rfl, c, rfl, ⟨xs, x01n.seqT hc⟩, for_tup (a := c) (xs := xs) (fun i σ H2 => ∃ y4 y5 y6 y7 f td wt, σ = [some (.ref c), some (.ref an), some (.ref nw), some (.ref fr), y4, y5, y6, y7, none, none, none, none] ∧ go f td (as.drop wt) (os.drop i) = go f0 [] as os ∧ RnH CR H2 nw an tl fl (wt : Nat) ∧ FrH CF H2 fr b pl ∧ Hd K H2 b [hnd, slt] Ws i f ∧ H2 tl = some (.lst (td.map V.int)) ∧ td.length ≤ i ∧ wants (os.drop i) + wt = wants os ∧ wt ≤ as.length ∧ Ex [nw, b, tl] H1 H2) ?_ ?_ ?_ ?_⟩
    · exact ⟨_, _, _, _, f0, [], 0, rfl, rfl, hR1, hF1, hd_new hb1, htl1, Nat.le_refl _, by rw [List.drop_zero]; omega, Nat.zero_le _, .refl⟩
    · rintro i σ H2 _ ⟨_, _, _, _, _, _, _, _, _, _, _, _, _, _, _, _, x2⟩
      exact x2.seqT (x01n.seqT hc)
    · rintro i x σ H2 hxi ⟨y4, y5, y6, y7, f, td, wt, rfl, hgo, hR2, hF2, hD2, htl2, ltd, hw2, hwl, x2⟩
      obtain ⟨d0, hd0, tx⟩ := hx.get hxi
      rw [List.getElem?_map] at hd0
      cases hoi : os[i]? with
      | none => rw [hoi] at hd0; cases hd0
      | some o =>
        rw [hoi] at hd0
        cases hd0
        have il : i < os.length := (List.getElem?_eq_some_iff.mp hoi).1
        have mo : o ∈ os := List.mem_of_getElem? hoi
        have hdrop : os.drop i = o :: os.drop (i + 1) := by
          rw [List.drop_eq_getElem_cons il]
          congr 1
          exact (List.getElem?_eq_some_iff.mp hoi).2
        rw [hdrop] at hgo hw2
        have x02 : Ex [nw, b, tl] H H2 := (x01n.mono (by simp)).trans x2
        refine ⟨x, rfl, x, o, rfl, tx.ex x02, fun H3 u x3 hW3 => ?_⟩
        refine ⟨u, rfl, u, asW o, rfl, hW3, ?_⟩
        have hR3 := hR2.ex x3 (by simp)
        have han3 : SqT K H3 an avs := x3.seqT (x02.seqT han)
        have next : ∀ (H4 : Hp) (a : Int) (wt' : Nat), Ex [nw] H3 H4 → RnH CR H4 nw an tl fl wt' → go (stF f a (asW o)) (td ++ tellW f (asW o)) (as.drop wt') (os.drop (i + 1)) = go f0 [] as os → wants (os.drop (i + 1)) + wt' = wants os → wt' ≤ as.length →
            ∀ (k : VK), (∀ H5 v, (∃ y4 y5 y6 y7 f td wt, [some (V.ref c), some (.ref an), some (.ref nw), some (.ref fr), some x, some u, some (.int (chW (asW o))), some (.int a), none, none, none, none] = [some (.ref c), some (.ref an), some (.ref nw), some (.ref fr), y4, y5, y6, y7, none, none, none, none] ∧ go f td (as.drop wt) (os.drop (i + 1)) = go f0 [] as os ∧ RnH CR H5 nw an tl fl (wt : Nat) ∧ FrH CF H5 fr b pl ∧ Hd K H5 b [hnd, slt] Ws (i + 1) f ∧ H5 tl = some (.lst (td.map V.int)) ∧ td.length ≤ i + 1 ∧ wants (os.drop (i + 1)) + wt = wants os ∧ wt ≤ as.length ∧ Ex [nw, b, tl] H1 H5) → k v H5) →
            spDo K CF CR [.ref nw, .ref fr, u, .int a] H4 k (E0 : XK) := fun H4 a wt' x4 hR4 hg4 hw4 hl4 kk hk => by
          obtain ⟨dx4, fs4, s1, s2, s3, s4, s5, s6, s7⟩ := id hR4
          have htl3 := x3.lst htl2
          have htl4 := x4.lst htl3 (by simpa using nwtl.symm)
          have hD4 := (hD2.ex x3 (by simp)).ex x4 (by simpa using nwb.symm)
          have hF4 := (hF2.ex x3 (by simp)).ex x4 (by simpa using nwfr.symm)
          refine ⟨nw, fr, b, tl, pl, u, a, asW o, [hnd, slt], Ws, i, f, td, rfl, ⟨dx4, fs4, s1, s4⟩, htl4, by omega, hW3.ex x4, okW_of (hoo o mo), hF4, hD4, by omega, hWl, kd_ok, fun H5 x5 hD5 htl5 => hk H5 .non ?_⟩
          have lt : (tellW f (asW o)).length ≤ 1 := by cases (asW o) <;> simp [tellW]
          refine ⟨_, _, _, _, stF f a (asW o), td ++ tellW f (asW o), wt', rfl, hg4, hR4.ex x5 (by simp [nwb, nwtl]), hF4.ex x5 (by simp [frb, frtl]), hD5, htl5, by rw [List.length_append]; omega, hw4, hl4, ?_⟩
          exact (x2.trans (x3.mono (by simp))).trans ((x4.mono (by simp)).trans (x5.mono (by simp)))
        rcases ch_cases (asW o) with hch | hch
        · have ww : wt < wants os := by
            rw [show wants (o :: os.drop (i + 1)) = (if chW (asW o) > 0 then 1 else 0) + wants (os.drop (i + 1)) from rfl] at hw2
            rw [if_pos (by rw [hch]; decide)] at hw2
            omega
          have x03 : Ex [] H H3 := by
            have y : Ex [nw, b, tl] H H2 := (x01n.mono (by simp)).trans x2
            exact (Ex.own nnw .refl (Ex.own nb0 .refl (Ex.own ntl0 .refl (y.mono (by simp))))).trans x3
          refine ⟨some (.ref c), some (.ref an), some (.ref fr), some x, some u, y7, none, none, none, none, nw, an, tl, fl, wt, chW (asW o), avs, rfl, hR3, han3, by omega, fun _ => ?_, fun z => absurd (by rw [hch]; decide) z⟩
          by_cases wlt : wt < as.length
          · have ha := List.getElem?_eq_getElem wlt
            obtain ⟨a0, a1⟩ := hrng _ (List.getElem_mem wlt)
            have hdr : as.drop wt = as[wt] :: as.drop (wt + 1) := List.drop_eq_getElem_cons wlt
            refine ⟨fun v hv => ?_, fun z => by omega⟩
            rw [hget wt _ ha] at hv
            cases hv
            refine ⟨some as[wt], .int _, .inl ⟨as[wt], rfl, a0, by rw [hch]; exact a1, fun H4 x4 hR4 => ?_⟩⟩
            refine ⟨.ref nw, rfl, .ref fr, rfl, u, rfl, .int as[wt], rfl, ?_⟩
            refine next H4 as[wt] (wt + 1) x4 hR4 ?_ ?_ (by omega) _ fun H5 v h5 => h5
            · rw [hdr] at hgo
              rw [← hgo]
              conv => rhs; unfold go
              rw [if_pos (by rw [hch]; decide)]
            · rw [show wants (o :: os.drop (i + 1)) = (if chW (asW o) > 0 then 1 else 0) + wants (os.drop (i + 1)) from rfl] at hw2
              rw [if_pos (by rw [hch]; decide)] at hw2
              omega
          · have ew : wt = as.length := by omega
            obtain ⟨bad, ou⟩ := qx (by omega)
            rw [← ew] at bad ou
            have ou3 := ou.ex x03
            rcases bad with bad | ⟨v, o', hv, ho, nb⟩
            · refine ⟨fun v hv => ?_, fun _ => ou3⟩
              rw [List.getElem?_eq_none (by omega)] at hv; cases hv
            · refine ⟨fun v' hv' => ?_, fun _ => ou3⟩
              rw [hv] at hv'
              cases hv'
              exact ⟨o', ho.ex x03, .inr ⟨by rw [hch]; exact nb, ou3⟩⟩
        · refine ⟨some (.ref c), some (.ref an), some (.ref fr), some x, some u, y7, none, none, none, none, nw, an, tl, fl, wt, chW (asW o), avs, rfl, hR3, han3, by omega, fun z => absurd z (by rw [hch]; decide), fun _ => ?_⟩
          refine ⟨.ref nw, rfl, .ref fr, rfl, u, rfl, .int 0, rfl, ?_⟩
          refine next H3 0 wt .refl hR3 ?_ ?_ hwl _ fun H5 v h5 => h5
          · rw [← hgo]
            conv => rhs; unfold go
            rw [if_neg (by rw [hch]; decide)]
          · rw [show wants (o :: os.drop (i + 1)) = (if chW (asW o) > 0 then 1 else 0) + wants (os.drop (i + 1)) from rfl] at hw2
            rw [if_neg (by rw [hch]; decide)] at hw2
            omega
    · rintro σ H2 ⟨y4, y5, y6, y7, f, td, wt, rfl, hgo, hR2, hF2, hD2, htl2, ltd, hw2, hwl, x2⟩
      rw [lx, List.drop_length] at hgo hw2
      have ew : as.length = wants os := by
        rw [show wants [] = 0 from rfl] at hw2
        omega
      have q := q ew
      have hgo : (f, td) = go f0 [] as os := by rw [← hgo]; unfold go; rfl
      have x02 : Ex [] H H2 := by
        have y : Ex [nw, b, tl] H H2 := (x01n.mono (by simp)).trans x2
        exact Ex.own nnw .refl (Ex.own nb0 .refl (Ex.own ntl0 .refl (y.mono (by simp))))
      obtain ⟨dx2, fs2, p1, p2, p3, p4, p5, p6⟩ := id hF2
      refine ⟨.ref fr, rfl, fr, dx2, fs2, rfl, p1, p5, fr, b, pl, [hnd, slt], Ws, _, f, rfl, hF2, hD2, by omega, hWs, fun H3 t xs3 qs x3 hs3 ha3 sq nd mem lq => ?_⟩
      have lx3 := ha3.len
      rw [List.length_map] at lx3
      refine ⟨t, rfl, ⟨xs3, hs3⟩, fun D nD => ?_⟩
      have nD2 : H2 D = none := x3.f _ nD
      have nD0 : H D = none := x02.f _ nD2
      refine lc_tup (a := t) (xs := xs3) (K := K) (fun i H4 => ∃ acc, H4 D = some (.lst acc) ∧ TpAll K H4 acc (((qs.take i).filter fun q => decide (¬ (f q).2 = [])).map (leftD f)) ∧ acc.length ≤ i ∧ Ex [D] H3 H4) ?_ ?_ ?_ ?_
      · exact ⟨[], upd_same, by rw [List.take_zero]; exact .nil, Nat.le_refl _, .new nD⟩
      · rintro i H4 _ ⟨_, _, _, _, x4⟩
        exact x4.seqT hs3
      · rintro i x H4 hxi ⟨acc, hDa, haa, la, x4⟩
        obtain ⟨d0, hd0, tx⟩ := ha3.get hxi
        rw [List.getElem?_map] at hd0
        cases hqi : qs[i]? with
        | none => rw [hqi] at hd0; cases hd0
        | some q1 =>
          rw [hqi] at hd0
          cases hd0
          have il : i < qs.length := (List.getElem?_eq_some_iff.mp hqi).1
          have tx4 := tx.ex x4
          unfold oneD qD at tx4
          cases tx4 with
          | tup hs ha1 =>
            rename_i o zs
            cases ha1 with
            | cons h1 h2 =>
              cases h2 with
              | cons h2 h3 =>
                cases h3 with
                | cons h3 h4 =>
                  cases h4
                  cases h2
                  cases h1 with
                  | tup hs1 hb1 =>
                    rename_i vq zq
                    cases h3 with
                    | tup hs5 hb5 =>
                      rename_i wsA zw
                      have ezw := strs_inv hb5
                      rw [ezw] at hs5
                      refine ⟨o, _, rfl, hs, rfl, _, _, rfl, _, _, rfl, _, _, rfl, rfl, ?_⟩
                      refine ⟨rfl, ?_⟩
                      have tk : (qs.take (i + 1)).filter (fun q => decide (¬ (f q).2 = [])) = (qs.take i).filter (fun q => decide (¬ (f q).2 = [])) ++ (if (f q1).2 = [] then [] else [q1]) := by
                        rw [List.take_add_one, hqi, List.filter_append]
                        congr 1
                        show [q1].filter _ = _
                        rw [List.filter_cons]
                        by_cases e : (f q1).2 = [] <;> simp [e]
                      refine ⟨.ref wsA, rfl, wsA, _, rfl, .inr hs5, _, 0, rfl, rfl, _, rfl, ite2 (fun e => ?_) fun e => ?_⟩
                      · have ng : ¬ (f q1).2 = [] := fun z => by
                          have := of_decide_eq_true e
                          rw [z] at this
                          exact absurd this (by decide)
                        refine ⟨.ref vq, rfl, .ref wsA, rfl, (by show 1 ≤ sizeLine; decide), fun Z nZ => ?_⟩
                        have xZ : Ex [] H4 (upd H4 Z (.tup [.ref wsA])) := .new nZ
                        refine tp_cat (K := K) (xZ.seqT hs1) (.of upd_same) (hb1.ex xZ) (.cons (.tup (xZ.seqT hs5) (TpAll.strs _)) .nil) (by simp) fun p3 H5 zs3 x5 hs6 ht6 => ?_
                        have hD5 := x5.lst (xZ.lst hDa)
                        have x6 : Ex [D] H5 (upd H5 D (.lst (acc ++ [.ref p3]))) := .put hD5 nt_lst (by simp)
                        refine ⟨acc, hD5, by rw [sizeLine_eq]; omega, acc ++ [.ref p3], upd_same, ?_, by rw [List.length_append, List.length_singleton]; omega, ((x4.trans (xZ.mono (by simp))).trans (x5.mono (by simp))).trans x6⟩
                        rw [tk, if_neg ng, List.map_append]
                        exact (((haa.ex xZ).ex x5).ex x6).app (.cons (Tp.ex x6 (.tup hs6 ht6)) .nil)
                      · have ng : (f q1).2 = [] := by
                          refine Decidable.byContradiction fun z => e (decide_eq_true ?_)
                          rw [List.length_map]
                          have := List.length_pos_iff.mpr z
                          show (((f q1).2.length : Nat) : Int) > 0
                          omega
                        refine ⟨acc, hDa, ?_, by omega, x4⟩
                        rw [tk, if_pos ng, List.append_nil]
                        exact haa
      · rintro H4 ⟨acc, hDa, haa, la, x4⟩
        rw [lx3, List.take_length] at haa
        have x24 : Ex [] H2 H4 := Ex.own nD2 x3 x4
        have x04 := x02.trans x24
        have hR4 := hR2.ex x24 (by simp)
        obtain ⟨dx4, fs4, s1, s2, s3, s4, s5, s6, s7⟩ := id hR4
        have htl4 := x24.lst htl2
        refine ⟨.ref nw, rfl, nw, CR, dx4, fs4, .ref tl, rfl, s1, T.cl, T.n4, s4, tl, _, rfl, .inl ⟨.of htl4, fun t1 n1 => ?_⟩⟩
        have y1 : Ex [] H4 (upd H4 t1 (.tup (td.map V.int))) := .new n1
        refine ⟨.ref D, rfl, D, acc, rfl, .inl ⟨.of (y1.lst hDa), fun t2 n2 => ⟨(by show 2 ≤ sizeLine; decide), fun t3 n3 => ?_⟩⟩⟩
        have y2 : Ex [] (upd H4 t1 (.tup (td.map V.int))) (upd (upd H4 t1 (.tup (td.map V.int))) t2 (.tup acc)) := .new n2
        have y3 : Ex [] (upd (upd H4 t1 (.tup (td.map V.int))) t2 (.tup acc)) (upd (upd (upd H4 t1 (.tup (td.map V.int))) t2 (.tup acc)) t3 (.tup [.ref t1, .ref t2])) := .new n3
        rw [← hgo] at q
        refine q _ _ (qs.filter fun q => decide (¬ (f q).2 = [])) (((x04.trans y1).trans y2).trans y3) ⟨sq.filter _, nd.filter _, fun r => ?_⟩ ?_
        · show r ∈ qs.filter (fun q => decide (¬ (f q).2 = [])) ↔ ¬ (f r).2 = []
          rw [List.mem_filter]
          refine ⟨fun z => of_decide_eq_true z.2, fun z => ⟨(mem r).mpr fun e => z (by rw [e]), decide_eq_true z⟩⟩
        · refine .tup (.of upd_same) (.cons (.tup (y3.seqT (y2.seqT (.of upd_same))) (ints_tp td)) (.cons (.tup (y3.seqT (.of upd_same)) ?_) .nil))
          exact ((haa.ex y1).ex y2).ex y3
end
end K45

set_option maxHeartbeats 1000000
namespace Kk
open PySem PySem.Spec PyProof.Rows L2
/-! literal data: what an expression of constants, names, tuples and lists reads, in one step -/
abbrev Lit := L2.St → Hp → PyData → Prop
abbrev Lits := L2.St → Hp → List PyData → Prop
def tLit (K : PySem.W.Frag) (φ : Lit) : TE := fun σ H Q => ∃ d, φ σ H d ∧ ∀ v H', Ex [] H H' → Tp K H' v d → Q v H'
def tLits (K : PySem.W.Frag) (φ : Lits) : TA := fun σ H Q => ∃ ds, φ σ H ds ∧ ∀ vs H', Ex [] H H' → TpAll K H' vs ds → Q vs H'
structure PL (X : Cx) (e : Expr) (φ : Lit) : Prop where
  pe : PE X e (tLit X.K φ)
  mono : ∀ σ H H' d, Ex [] H H' → φ σ H d → φ σ H' d
structure PLs (X : Cx) (es : List Expr) (φ : Lits) : Prop where
  pa : PA X es (tLits X.K φ)
  mono : ∀ σ H H' ds, Ex [] H H' → φ σ H ds → φ σ H' ds
  len : ∀ σ H ds, φ σ H ds → ds.length = es.length
theorem peL {X : Cx} {e : Expr} {t t' : TE} (h : PE X e t) (i : ∀ σ H Q, t' σ H Q → t σ H Q) : PE X e t' := ⟨fun pins s σ H Q I q => h.run pins s σ H Q I (i σ H Q q)⟩
theorem paL {X : Cx} {es : List Expr} {t t' : TA} (h : PA X es t) (i : ∀ σ H Q, t' σ H Q → t σ H Q) : PA X es t' := ⟨fun pos pins s σ H Q I q => h.run pos pins s σ H Q I (i σ H Q q)⟩
def lC (d : PyData) : Lit := fun _ _ d' => d' = d
def lV (K : PySem.W.Frag) (i : Nat) : Lit := fun σ H d => ∃ v, σ[i]? = some (some v) ∧ Tp K H v d
def lNil : Lits := fun _ _ ds => ds = []
def lCons (φ : Lit) (ψ : Lits) : Lits := fun σ H ds => ∃ d r, ds = d :: r ∧ φ σ H d ∧ ψ σ H r
def lTup (ψ : Lits) : Lit := fun σ H d => ∃ ds, d = .tuple ds ∧ ψ σ H ds
section
variable {X : Cx} {pos : Pos} {e : Expr} {es : List Expr} {φ : Lit} {ψ : Lits}
theorem pl_str {x : Str} {j} : PL X (.Constant (.str x) j pos) (lC (.str x)) :=
  ⟨peL pe_str fun σ H Q ⟨d, h, q⟩ => by subst h; exact q _ H .refl (.str x), fun _ _ _ _ _ h => h⟩
theorem pl_non {j} : PL X (.Constant .none j pos) (lC .none) :=
  ⟨peL pe_non fun σ H Q ⟨d, h, q⟩ => by subst h; exact q _ H .refl .non, fun _ _ _ _ _ h => h⟩
theorem pl_bl {b : Bool} {j} : PL X (.Constant (.bool b) j pos) (lC (.bool b)) :=
  ⟨peL pe_bl fun σ H Q ⟨d, h, q⟩ => by subst h; exact q _ H .refl (.bl b), fun _ _ _ _ _ h => h⟩
theorem pl_int {i : Int} {j} : PL X (.Constant (.int i) j pos) (lC (.int i)) :=
  ⟨peL pe_int fun σ H Q ⟨d, h, q⟩ => by subst h; exact q _ H .refl (.int i), fun _ _ _ _ _ h => h⟩
theorem pl_v (i : Nat) {x : Str} (h : PE X (.Name x pos) (tVar i)) : PL X (.Name x pos) (lV X.K i) :=
  ⟨peL h fun σ H Q ⟨d, ⟨v, hv, hd⟩, q⟩ => ⟨v, hv, q v H .refl hd⟩, fun σ H H' d e ⟨v, hv, hd⟩ => ⟨v, hv, hd.ex e⟩⟩
theorem pls_nil : PLs X [] lNil :=
  ⟨paL pa_nil fun σ H Q ⟨ds, h, q⟩ => by subst h; exact q [] H .refl .nil, fun _ _ _ _ _ h => h, fun _ _ ds h => by rw [h]; rfl⟩
theorem pls_cons (a : PL X e φ) (b : PLs X es ψ) (hs : starEach (e :: es) X.env = (false, eval e X.env) :: starEach es X.env := by rfl) : PLs X (e :: es) (lCons φ ψ) := by
  refine ⟨paL (pa_cons a.pe b.pa hs) fun σ H Q ⟨ds, ⟨d, r, h, h1, h2⟩, q⟩ => ?_, fun σ H H' ds x ⟨d, r, h, h1, h2⟩ => ⟨d, r, h, a.mono _ _ _ _ x h1, b.mono _ _ _ _ x h2⟩, fun σ H ds ⟨d, r, h, _, h2⟩ => by rw [h, List.length_cons, List.length_cons, b.len σ H r h2]⟩
  subst h
  refine ⟨d, h1, fun v H1 x1 dv => ⟨r, b.mono _ _ _ _ x1 h2, fun vs H2 x2 dvs => q _ H2 (x1.trans x2) (.cons (dv.ex x2) dvs)⟩⟩
theorem pl_tup {x1} (b : PLs X es ψ) (hl : es.length ≤ 1000) : PL X (.Tuple es x1 pos) (lTup ψ) := by
  refine ⟨peL (pe_tup b.pa) fun σ H Q ⟨d, ⟨ds, h, h1⟩, q⟩ => ?_, fun σ H H' d x ⟨ds, h, h1⟩ => ⟨ds, h, b.mono _ _ _ _ x h1⟩⟩
  subst h
  refine ⟨ds, h1, fun vs H1 x1 dvs => ⟨?_, fun p np => q _ _ (x1.trans (.new np)) (.tup (.of upd_same) ((dvs.ex (.new (xs := []) np))))⟩⟩
  rw [dvs.len, b.len _ _ _ h1]
  exact Nat.le_trans hl (by decide)
end
end Kk

namespace K45
open PySem PySem.Spec PyProof.Rows L2 Kk RZ
abbrev s_cell : Stmt := topS 39
abbrev s_begin : Stmt := topS 40
abbrev s_draw : Stmt := topS 41
theorem sc_cell : FnScope ["_law_script", "_law_k"] ["_law_script", "_law_k"] (defScope s_cell) := ⟨rfl, rfl, rfl, by decide +kernel, rfl, by decide +kernel, by decide +kernel⟩
theorem sc_begin : FnScope ["_law_cell", "_law_seed"] ["_law_cell"] (defScope s_begin) := ⟨rfl, rfl, rfl, by decide +kernel, rfl, by decide +kernel, by decide +kernel⟩
theorem sc_draw : FnScope ["_law_state", "_law_many", "_law_got", "_law_number"] ["_law_state", "_law_many"] (defScope s_draw) := ⟨rfl, rfl, rfl, by decide +kernel, rfl, by decide +kernel, by decide +kernel⟩
/-- the state of the draws -/
def St2 (H : Hp) (d : Addr) : Prop := ∃ a b : Int, H d = some (.lst [.int a, .int b]) ∧ 0 ≤ a ∧ 0 ≤ b ∧ b < 4294967296
theorem St2.ex {H H' : Hp} {d : Addr} {xs : List Addr} (h : St2 H d) (e : Ex xs H H') (m : d ∉ xs) : St2 H' d := by
  obtain ⟨a, b, h, r⟩ := h
  exact ⟨a, b, e.lst h m, r⟩
theorem St2.some {H : Hp} {d : Addr} (h : St2 H d) : ∃ xs, H d = some (.lst xs) := let ⟨_, _, h, _⟩ := h; ⟨_, h⟩
theorem St2.ne {H : Hp} {d p : Addr} (h : St2 H d) (n : H p = none) : p ≠ d := fun z => by
  obtain ⟨xs, h⟩ := h.some
  rw [z, h] at n; cases n
theorem atN {α : Type} {xs : List α} {j : Nat} {v : α} (h : xs[j]? = some v) : atI xs (j : Int) = some v := atI_nat h
theorem atZ {α : Type} {xs : List α} {v : Int} (h0 : 0 ≤ v) (h1 : v < xs.length) : ∃ x, atI xs v = some x ∧ xs[v.toNat]? = some x := by
  have l : v.toNat < xs.length := by omega
  refine ⟨xs[v.toNat], ?_, by simp [l]⟩
  have := atI_nat (List.getElem?_eq_getElem l)
  rwa [Int.toNat_of_nonneg h0] at this
section
variable {P : Program} {w : World} {K : PySem.W.Frag} {mg : Str → Option Value} {base : Heap}
def spCell (K : PySem.W.Frag) : Sp := fun vs H Q _ => ∃ (s : Addr) (ns : List Int) (k : Nat), vs = [.ref s, .int k] ∧ SqL K H s (ns.map V.int) ∧ ∀ n, Q (.int n) H
theorem ok_cell {f : Addr} {fd : FuncData} {k : Nat} (F : Fun K "_law_cell_at" "_law_cell_at" s_cell f fd) (m_len : mg "len" = none) : FnOk P w K mg base CX0 (k + 1) f fd ["_law_script", "_law_k"] (spCell K) := by
  refine F.ok sc_cell (fun vs H Q E h => ?_) (fun cdv A outer s H vs Q E hr h => ?_)
  · obtain ⟨s, ns, k, rfl, _⟩ := h; rfl
  · obtain ⟨s, ns, k, rfl, hS, q⟩ := h
    refine ⟨_, (pss_cons (ps_if (pt_cmpR op_lt (pv 1) (pe_callB call_len_seq (by rfl) m_len PySem.boot_len (pa_cons (pv 0) pa_nil)) (nomark _)) (pss_one (ps_ret (pe_ix ix_list (pv 0) (pv 1) (fun _ _ => rfl)))) pss_nil)
      (pss_one (ps_ret pe_int))), ?_⟩
    refine ⟨.int k, rfl, .ref s, rfl, s, _, rfl, .inl hS, _, _, rfl, rfl, _, rfl, ite2 (fun e => ?_) (fun e => ?_)⟩
    · have e1 : k < ns.length := by
        have e2 := of_decide_eq_true e
        rw [List.length_map] at e2; omega
      have e3 : (ns.map V.int)[k]? = some (.int ns[k]) := by rw [List.getElem?_map, List.getElem?_eq_getElem e1]; rfl
      exact ⟨.ref s, rfl, .int k, rfl, s, _, _, _, rfl, rfl, hS, atN e3, q _⟩
    · exact q 0
def spBegin : Sp := fun vs H Q _ => ∃ n : Int, vs = [.int n] ∧ ∀ p H', H p = none → Ex [] H H' → St2 H' p → Q (.ref p) H'
theorem ok_begin {f : Addr} {fd : FuncData} {k : Nat} (F : Fun K "_law_begin" "_law_begin" s_begin f fd) : FnOk P w K mg base CX0 (k + 1) f fd ["_law_cell"] spBegin := by
  refine F.ok sc_begin (fun vs H Q E h => ?_) (fun cdv A outer s H vs Q E hr h => ?_)
  · obtain ⟨n, rfl, _⟩ := h; rfl
  · obtain ⟨n, rfl, q⟩ := h
    refine ⟨_, (pss_cons (ps_set (i := 1) sc_begin.nd rfl (.inl rfl) (pe_op op_add (pe_op op_add (pe_op op_mod (pv 0) pe_int) (pe_op op_mod (pe_op op_fdivW (pv 0) pe_int) pe_int)) pe_int))
      (pss_cons (ps_if (pt_cmpR op_lt (pv 0) (pe_op op_pow pe_int pe_int) (nomark _)) (pss_one (ps_ret (pe_lst (pa_cons pe_int (pa_cons (pv 1) pa_nil))))) pss_nil)
      (pss_one (ps_ret (pe_lst (pa_cons (pv 0) (pa_cons (pv 1) pa_nil))))))), ?_⟩
    have z1 : 0 ≤ n % 2147483647 := Int.emod_nonneg _ (by decide)
    have z2 : n % 2147483647 < 2147483647 := Int.emod_lt_of_pos _ (by decide)
    have z3 : 0 ≤ n / 2147483647 % 1000003 := Int.emod_nonneg _ (by decide)
    have z4 : n / 2147483647 % 1000003 < 1000003 := Int.emod_lt_of_pos _ (by decide)
    refine ⟨.int n, rfl, n, 2147483647, rfl, rfl, (by show (0 : Int) < 2147483647; decide), .int n, rfl, n, 2147483647, rfl, rfl, wide_div (b := 32) (by decide) (by decide) (by decide) (by decide), _, 1000003, rfl, rfl, (by show (0 : Int) < 1000003; decide), _, _, rfl, rfl, _, 3, rfl, rfl, ?_⟩
    refine ⟨.int n, rfl, 10, 18, rfl, rfl, ⟨by decide, by decide, by decide⟩, n, _, rfl, rfl, _, rfl, ite2 (fun e => ?_) (fun e => ?_)⟩
    · exact ⟨_, rfl, (by show 2 ≤ sizeLine; decide), fun p np => q p _ np (.new np) ⟨_, _, upd_same, by decide, by omega, by omega⟩⟩
    · refine ⟨.int n, rfl, _, rfl, (by show 2 ≤ sizeLine; decide), fun p np => q p _ np (.new np) ⟨_, _, upd_same, ?_, by omega, by omega⟩⟩
      refine Decidable.byContradiction fun z => e (decide_eq_true ?_)
      exact Int.lt_trans (Int.not_le.mp z) (by decide)
def spDraw : Sp := fun vs H Q _ => ∃ (d : Addr) (m : Int), vs = [.ref d, .int m] ∧ St2 H d ∧ 0 < m ∧ m < 1000000 ∧ ∀ H' v, 0 ≤ v → v < m → Ex [d] H H' → St2 H' d → Q (.int v) H'
theorem ok_draw {f : Addr} {fd : FuncData} {k : Nat} (F : Fun K "_law_draw" "_law_draw" s_draw f fd) : FnOk P w K mg base CX0 (k + 1) f fd ["_law_state", "_law_many"] spDraw := by
  refine F.ok sc_draw (fun vs H Q E h => ?_) (fun cdv A outer s H vs Q E hr h => ?_)
  · obtain ⟨d, m, rfl, _⟩ := h; rfl
  · obtain ⟨d, m, rfl, ⟨a, b, hd, ha, hb, hb2⟩, hm, hm2, q⟩ := h
    refine ⟨_, (pss_cons (ps_if (pt_cmpR op_gt (pe_ix ix_list (pv 0) pe_int (fun _ _ => rfl)) pe_int (nomark _)) (pss_cons (ps_set (i := 2) sc_draw.nd rfl (.inl rfl) (pe_op op_mod (pe_ix ix_list (pv 0) pe_int (fun _ _ => rfl)) (pv 1)))
      (pss_cons (ps_asg (pe_op op_fdiv (pe_ix ix_list (pv 0) pe_int (fun _ _ => rfl)) (pv 1)) (pg_sub (pv 0) pe_int set_list))
      (pss_one (ps_ret (pv 2))))) pss_nil)
      (pss_cons (ps_set (i := 3) sc_draw.nd rfl (.inl rfl) (pe_op op_mod (pe_op op_add (pe_op op_mul (pe_ix ix_list (pv 0) pe_int (fun _ _ => rfl)) pe_int) pe_int) pe_int))
      (pss_cons (ps_asg (pe_op op_mod (pe_op op_add (pe_op op_mul (pv 3) pe_int) pe_int) pe_int) (pg_sub (pv 0) pe_int set_list))
      (pss_one (ps_ret (pe_op op_mod (pe_op op_fdiv (pe_op op_mod (pe_op op_add (pe_op op_mul (pe_ix ix_list (pv 0) pe_int (fun _ _ => rfl)) pe_int) pe_int) pe_int) pe_int) (pv 1))))))), ?_⟩
    have hL : SqL K H d [.int a, .int b] := .of hd
    refine ⟨.ref d, rfl, d, _, 0, .int a, rfl, rfl, hL, rfl, a, 0, rfl, rfl, _, rfl, ite2 (fun e => ?_) (fun e => ?_)⟩
    · refine ⟨.ref d, rfl, d, _, 0, .int a, rfl, rfl, hL, rfl, .int m, rfl, a, m, rfl, rfl, hm, ?_⟩
      refine ⟨.ref d, rfl, d, _, 0, .int a, rfl, rfl, hL, rfl, .int m, rfl, a, m, rfl, rfl, ⟨hm, by omega⟩, .ref d, rfl, d, _, 0, 0, rfl, rfl, hd, rfl, .int (a % m), rfl, ?_⟩
      exact q _ _ (Int.emod_nonneg _ (by omega)) (Int.emod_lt_of_pos _ hm) (.put hd nt_lst (by simp)) ⟨_, b, upd_same, Int.ediv_nonneg ha (by omega), hb, hb2⟩
    · have z1 : 0 ≤ (b * 48271 + 11) % 2147483629 := Int.emod_nonneg _ (by decide)
      have z2 : (b * 48271 + 11) % 2147483629 < 2147483629 := Int.emod_lt_of_pos _ (by decide)
      refine ⟨.ref d, rfl, d, _, 1, .int b, rfl, rfl, hL, rfl, b, 48271, rfl, rfl, .inr ⟨by decide, by decide⟩, _, 11, rfl, rfl, _, 2147483629, rfl, rfl, (by show (0 : Int) < 2147483629; decide), ?_⟩
      let r := (b * 48271 + 11) % 2147483629
      have y1 : 0 ≤ (r * 69621 + 7) % 2147483587 := Int.emod_nonneg _ (by decide)
      have y2 : (r * 69621 + 7) % 2147483587 < 2147483587 := Int.emod_lt_of_pos _ (by decide)
      refine ⟨_, rfl, r, 69621, rfl, rfl, .inr ⟨by decide, by decide⟩, _, 7, rfl, rfl, _, 2147483587, rfl, rfl, (by show (0 : Int) < 2147483587; decide), .ref d, rfl, d, _, 1, 1, rfl, rfl, hd, rfl, ?_⟩
      let t := (r * 69621 + 7) % 2147483587
      have x1 : Ex [d] H (upd H d (.lst [.int a, .int t])) := .put hd nt_lst (by simp)
      have hL2 : SqL K (upd H d (.lst [.int a, .int t])) d [.int a, .int t] := .of upd_same
      refine ⟨.ref d, rfl, d, _, 1, .int t, rfl, rfl, hL2, rfl, t, 16807, rfl, rfl, .inr ⟨by decide, by decide⟩, _, 3, rfl, rfl, _, 2147483579, rfl, rfl, (by show (0 : Int) < 2147483579; decide), _, 8, rfl, rfl, ⟨by decide, by decide⟩, .int m, rfl, _, m, rfl, rfl, hm, ?_⟩
      exact q _ _ (Int.emod_nonneg _ (by omega)) (Int.emod_lt_of_pos _ hm) x1 ⟨a, t, upd_same, ha, y1, by omega⟩
end
end K45

set_option maxHeartbeats 4000000
namespace Kk
open PySem PySem.Spec PySem.W PySem.Calls PyProof.Rows L2
section
variable {prog : Program} {w : World} {A : Around} {E : Value → Shared → Prop} {s : Shared} {K : Frag} {x D : Addr} {ox : Obj} {odx : Option Obj}
theorem findObj_dataO {C : Addr} {name : Str} {a g : Value} (hc : (clsIn K C).isSome = true) (ha : findIn K (.ref C) name = some (some a)) (hg : specialIn K a "__get__" = some (some g)) (ht : takesIn K a = some true) : findObj K C odx name = some (.bind g a) := by
  obtain ⟨cd, hc⟩ := Option.isSome_iff_exists.mp hc
  unfold findObj
  rw [hc, Option.bind_some, ha, Option.bind_some]
  simp [hg, ht]
theorem kin_classO {Q : Option Value → Shared → Prop} (C : ExcC K D) (X : K.In s.heap) (I : InstAt s.heap x ox D odx) (h : Q (some (.ref D)) { s with toks := s.toks + 1 }) : wpAny (model prog w) A (getAttr? (.ref x) "__class__") Q E s := by
  have hf : findObj K D odx "__class__" = some (.bind (.builtin "getset_descriptor.__get__") (.builtin "object.__class__")) := findObj_dataO (by obtain ⟨cd, hc, _⟩ := any_some C.hd; rw [hc]; rfl) C.ha C.hn C.ht
  obtain ⟨hp, g, d, t, os⟩ := s
  have L0 := I.type (M := model prog w)
  have L1 := looks_findIn (M := model prog w) X C.hg
  have L2 := looks_findIn (M := model prog w) X C.hk
  have L3 := looks_find (M := model prog w) X I hf
  have sub : Looks (model prog w) hp (isInstance (.ref x) (.type "BaseException")) true := L0.andThen (looks_subIn X C.hs)
  have hx0 : (false && onTheHeap (Value.builtin "BaseException.__getattribute__")) = false := rfl
  have hx2 : (Value.builtin "BaseException.__getattribute__" == Value.builtin "object.__getattribute__") = false := by decide +kernel
  have hx1 : (onTheHeap (Value.ref D) && Value.builtin "BaseException.__getattribute__" == Value.builtin "object.__getattribute__") = false := by rw [hx2]; rfl
  unfold getAttr? getAttrBy? getAttrBy
  refine wpAny_bind (wpAny_mkText (wpAny_bind (wpAny_attempt (wpAny_holding (wpAny_bind (L0.at (wpAny_bind (L1.at ?_))))))))
  show wpAny _ _ (if (onTheHeap (Value.ref D) && Value.builtin "BaseException.__getattribute__" == Value.builtin "object.__getattribute__") = true then _ else _) _ _ _
  rw [hx1, if_neg Bool.false_ne_true]
  unfold getAttrByItsOwn hookBefore
  refine wpAny_bind ?_
  rw [if_pos (show onTheHeap (Value.ref D) = true from rfl)]
  refine L2.at ?_
  refine wpAny_bind (wpAny_attempt (wpAny_holding ?_))
  unfold callGetattribute
  rw [hx0, if_neg Bool.false_ne_true]
  unfold boundAndCalled
  rw [PySem.F.excAttr_ValueError.ga.bind (.ref x)]
  refine wpAny_bind (wpAny_pure ?_)
  show wpAny _ _ (call (.builtin "BaseException.__getattribute__") [.ref x, .str "__class__" t]) _ _ _
  refine wpAny_call (codeAny_call_builtin PySem.F.excAttr_ValueError.ga.plain PySem.F.entry_bexc_ga ?_)
  refine @check_slot (model prog w) _ _ ⟨hp, g, d, t + 1, os⟩ "BaseException.__getattribute__" "BaseException" "__getattribute__" (.ref x) [.str "__class__" t] [] _ (by decide +kernel) (by decide +kernel) sub (PySem.F.args_bexc_ga (.ref x) (.str "__class__" t)) ?_
  unfold Builtin.«object.__getattribute__»
  refine wpAny_bind (wpAny_of_eq (a := ((Value.ref x : Value), [Value.str "__class__" t])) (by first | rfl | (simp only [slotArgs]; rfl)) ?_)
  refine wpAny_bind (wpAny_pure (wpAny_bind (L0.at (wpAny_bind (L3.at ?_)))))
  show wpAny _ _ (holding [Value.builtin "object.__class__"] (call (.builtin "getset_descriptor.__get__") [.builtin "object.__class__", .ref x, .ref D]) >>= ret) _ _ _
  refine wpAny_bind (wpAny_holding (wpAny_call (class_get (s := ⟨hp, g, d, t + 1, os⟩) (ox := ox) (od := odx) X I C.hm ?_)))
  refine wpAny_pure ?_
  show wpAny _ _ (handedOut (.ref D)) _ _ _
  rw [handedOut_of (v := .ref D) rfl]
  first
    | exact wpAny_pure (wpAny_pure h)
    | exact wpAny_pure h
    | exact wpAny_pure (wpAny_bind (wpAny_pure (wpAny_pure h)))
theorem kitx_excO (C : ExcC K D) : KitX K (.ref x) (.ref D) (fun h => InstAt h x ox D odx) where
  ty := fun _ _ _ I => I.type
  it := fun _ _ X _ => by
    obtain ⟨cdD, hcD, _⟩ := any_some C.hd
    unfold clsIn at hcD
    split at hcD
    · rename_i c' d' cd' sl' ho
      intro A' Q' E' s' k q
      unfold isType loadHead
      exact wpAny_bind (wpAny_loadPart (k _ _ (X _ _ ho)) (wpAny_pure q))
    · cases hcD
  ne := fun h tp dd its n sl X htp => by
    obtain ⟨cdD, hcD, _⟩ := any_some C.hd
    refine Bool.eq_false_iff.mpr fun q => ?_
    have e : D = tp := Value.ref.inj (beq_iff_eq.mp q)
    subst e
    unfold clsIn at hcD
    split at hcD
    · rename_i c' d' cd' sl' ho
      have z := (X _ _ ho).symm.trans htp
      cases z
    · cases hcD
  ca := fun X I k => kin_classO C X I k
end
/-- isinstance(e, c), e the exception that the suite holds, with its dict at dd -/
def rIsO (K : PySem.W.Frag) (D a : Addr) (cls : Value) (d : Option Addr) : List V → Hp → VK → Prop := fun xs H Q => cls = .ref D ∧ ∃ (dd : Addr) (fs : List (Str × V)) (c : V) (cv : Value) (b : Bool), d = some dd ∧ H dd = some (.xd fs) ∧ xs = [.ref a, c] ∧ (∀ u, RelV c u → u = cv) ∧ PySem.W.kitOne K (.ref D) cv = some b ∧ Q (.bl b) H
/-- isinstance(e, (c, ..)) -/
def rIsOT (K : PySem.W.Frag) (D a : Addr) (cls : Value) (d : Option Addr) : List V → Hp → VK → Prop := fun xs H Q => cls = .ref D ∧ ∃ (dd tp : Addr) (fs : List (Str × V)) (cs : List V) (us : List Value) (b : Bool), d = some dd ∧ H dd = some (.xd fs) ∧ xs = [.ref a, .ref tp] ∧ H tp = some (.tup cs) ∧ Paired ClsV cs us ∧ PySem.W.kitAny K (.ref D) us = some b ∧ Q (.bl b) H
section
variable {X : Cx} {a D : Addr} {oe : Obj} {cls : Value} {d : Option Addr} {pn : List (Addr × Obj)}
theorem inst_of {pins : List (Addr × Obj)} {s : Shared} {σ : L2.St} {H : Hp} {dd : Addr} {fs : List (Str × V)} (hz : Zc (.ref D) (some dd) oe) (hf : ∃ vs, oe.data = .fields vs) (I : Inv (X.suite a ((a, oe) :: pn)) pins σ H s) (ea : H dd = some (.xd fs)) : ∃ od, InstAt s.heap a oe D (some od) := by
  obtain ⟨ha, _⟩ := I.pin (a, oe) (List.mem_append.mpr (.inl List.mem_cons_self))
  obtain ⟨vs, hd⟩ := hf
  have hx : ObjOk X.prog X.w H s.heap dd (.xd fs) := I.hok dd _ ea
  obtain ⟨mA, hns, hr⟩ := hx
  obtain ⟨od, ho, hl⟩ := lookIn_ns hns
  exact ⟨od, ha, hz.1, by unfold PySem.W.notCls; rw [hd] <;> rfl, by rw [hz.2]; exact ho⟩
theorem call_isO (C : ExcC X.K D) (hz : Zc cls d oe) (hf : ∃ vs, oe.data = .fields vs) : CallR (X.suite a ((a, oe) :: pn)) (.builtin "isinstance") (rIsO X.K D a cls d) := by
  intro pins s σ H xs us Q I r h
  obtain ⟨rfl, dd, fs, c, cv, b, rfl, ea, rfl, hcv, e, q⟩ := h
  cases r with
  | cons rx rr =>
    cases rr with
    | cons rt rr =>
      cases rr
      cases rx
      have ec := hcv _ rt
      subst ec
      obtain ⟨od, J⟩ := inst_of hz hf I ea
      exact PySem.W.kia_one (kitx_excO C) I.kIn J e (fun z => nomatch z) fun tk => ⟨.bl b, H, I.kept (t' := tk) fun _ _ z => z, rfl, q⟩
theorem call_isOT (C : ExcC X.K D) (hz : Zc cls d oe) (hf : ∃ vs, oe.data = .fields vs) : CallR (X.suite a ((a, oe) :: pn)) (.builtin "isinstance") (rIsOT X.K D a cls d) := by
  intro pins s σ H xs us Q I r h
  obtain ⟨rfl, dd, tp, fs, cs, ws, b, rfl, ea, rfl, hT, k, e, q⟩ := h
  cases r with
  | cons rx rr =>
    cases rr with
    | cons rt rr =>
      cases rr
      cases rx
      rename_i u2
      cases (show u2 = Value.ref tp from rt)
      obtain ⟨od, J⟩ := inst_of hz hf I ea
      obtain ⟨_, its, rv, o, h1, h2, n, h3⟩ := (show ObjOk X.prog X.w H s.heap tp (.tup cs) from I.hok tp _ hT)
      have e3 := ClsV.all k rv
      subst e3
      obtain ⟨oc, od', dt, sl⟩ := o
      simp only at h2 h3
      subst h2 h3
      exact PySem.W.kia_tup (kitx_excO C) I.kIn J h1 e (fun z => nomatch z) fun tk => ⟨.bl b, H, I.kept (t' := tk) fun _ _ z => z, rfl, q⟩
end
end Kk

set_option maxHeartbeats 4000000
namespace K45
open PySem PySem.Spec PyProof.Rows L2 Kk RZ
abbrev s_ref : Stmt := topS 43
abbrev n_ref : List Str := ["_law_code", "_law_answers", "_law_told", "_law_others", "e"]
theorem sc_ref : FnScope n_ref ["_law_code", "_law_answers"] (defScope s_ref) := ⟨rfl, rfl, rfl, by decide +kernel, rfl, by decide +kernel, by decide +kernel⟩
/-- what the written part says of the errors, where they are caught -/
structure NaC (K : PySem.W.Frag) (mg : Str → Option Value) (CN CW C1 C2 C3 C4 C5 : Addr) : Prop where
  gN : mg "NoAnswer" = some (.ref CN)
  gW : mg "WipeError" = some (.ref CW)
  g1 : mg "NoCode" = some (.ref C1)
  g2 : mg "NoRow" = some (.ref C2)
  g3 : mg "NoText" = some (.ref C3)
  g4 : mg "NoTurn" = some (.ref C4)
  g5 : mg "TooLong" = some (.ref C5)
  gV : mg "ValueError" = none
  te : PySem.W.exmOne K (.ref CN) (.ref CW) = some true
  ex : ExcC K CN
  xf : XfC K CN
  no : PySem.W.findIn K (.ref CN) "number" = some none
  k1 : PySem.W.kitOne K (.ref CN) (.ref CN) = some true
  k2 : PySem.W.kitOne K (.ref CN) (.type "ValueError") = some true
  k3 : PySem.W.kitAny K (.ref CN) [.ref C1, .ref C2, .ref C3, .ref C4, .ref C5] = some false
/-- a code and answers: as many as are right -/
def Pre (K : PySem.W.Frag) (H : Hp) (c an : Addr) (os : List Or) (as : List Int) : Prop := ∃ (xs avs : List V) (Ws : List Str), SqT K H c xs ∧ TpAll K H xs (os.map orD) ∧ os.length ≤ 100 ∧ (∀ o ∈ os, orOk Ws o) ∧ SqT K H an avs ∧ as.length ≤ wants os ∧ as.length ≤ avs.length ∧
  (∀ (i : Nat) (a : Int), as[i]? = some a → avs[i]? = some (V.int a)) ∧ (∀ a ∈ as, 0 ≤ a ∧ a < 10000) ∧ Ws.length ≤ 20 ∧ (∀ s ∈ Ws, PyData.strOk s = true) ∧
  (as.length < wants os → (as.length = avs.length ∨ ∃ v o, avs[as.length]? = some v ∧ AnsV K H v o ∧ ¬ ∃ a, o = some a ∧ 0 ≤ a ∧ a < 10000))
section
variable {P : Program} {w : World} {K : PySem.W.Frag} {mg : Str → Option Value} {base : Heap}
def spRef (K : PySem.W.Frag) : Sp := fun vs H Q _ => ∃ (c an : Addr) (os : List Or) (as : List Int), vs = [.ref c, .ref an] ∧ Pre K H c an os as ∧ ∀ H', Ex [] H H' → Q (if as.length = wants os then .non else .int (as.length : Nat)) H'
theorem ok_ref {f f1 CN CW C1 C2 C3 C4 C5 : Addr} {fd d1 : FuncData} {k : Nat} (F : Fun K "_law_refused" "_law_refused" s_ref f fd) (TC : NaC K mg CN CW C1 C2 C3 C4 C5) (GR : FnOk P w K mg base (L2.CX P w) k f1 d1 ["code", "answers"] (spRun K CN)) (kR : PySem.W.keepIn K (.ref f1) = true) (bR : Binds K d1 ["code", "answers"] []) (gR : mg "run_code" = some (.ref f1)) (m_isinstance : mg "isinstance" = none) :
    FnOk P w K mg base CX0 (k + 1) f fd ["_law_code", "_law_answers"] (spRef K) := by
  refine F.ok sc_ref (fun vs H Q E h => ?_) (fun cdv A outer s H vs Q E hr h => ?_)
  · obtain ⟨c, an, os, as, rfl, _⟩ := h; rfl
  · obtain ⟨c, an, os, as, rfl, ⟨xs, avs, Ws, h1, h2, h3, h4, h5, h6, h7, h8, h9, h10, h11, h12⟩, q⟩ := h
    refine ⟨_, (pss_cons (ps_set (i := 2) sc_ref.nd rfl (.inl rfl) pe_non)
      (pss_cons (ps_try_as (i := 4) rfl rfl sc_ref.nd rfl rfl ⟨rfl, by decide, .inl TC.gW⟩ takes0 (fun W pn xe tk _ => pss_one (ps_expr (pe_callS GR hr (by rfl) gR kR bR (fun σ => passAt tk σ) (pa_cons (pv 0) (pa_cons (pv 1) pa_nil)))))
        (fun a oe cls d pn hz hf => pss_cons (ps_set (i := 2) sc_ref.nd rfl (.inl rfl) pe_str) (pss_cons (ps_set (i := 3) sc_ref.nd rfl (.inl rfl) (pe_callB (call_isOT TC.ex hz hf) (by rfl) m_isinstance (by decide +kernel) (pa_cons (pv 4) (pa_cons (pe_tup (pa_cons (pe_glob (v := .ref C1) rfl TC.g1 rfl) (pa_cons (pe_glob (v := .ref C2) rfl TC.g2 rfl) (pa_cons (pe_glob (v := .ref C3) rfl TC.g3 rfl) (pa_cons (pe_glob (v := .ref C4) rfl TC.g4 rfl) (pa_cons (pe_glob (v := .ref C5) rfl TC.g5 rfl) pa_nil)))))) pa_nil))))
          (pss_one (ps_if (PW.pt (pw_and (pt_val (pe_callB (call_isO TC.ex hz hf) (by rfl) m_isinstance (by decide +kernel) (pa_cons (pv 4) (pa_cons (pe_glob (v := .ref CN) rfl TC.gN rfl) pa_nil)))) (pw_and (pt_val (pe_callB (call_isO TC.ex hz hf) (by rfl) m_isinstance (by decide +kernel) (pa_cons (pv 4) (pa_cons (pe_bltn (v := .ty "ValueError") (by rfl) TC.gV (by decide +kernel) rfl) pa_nil)))) (pw_and1 (pt_not (pt_val (pv 3))))))) (pss_one (ps_set (i := 2) sc_ref.nd rfl (.inl rfl) (pe_xf TC.xf TC.no hz hf (pv 4)))) pss_nil)))))
      (pss_one (ps_ret (pv 2))))), ?_⟩
    refine ⟨.ref c, rfl, .ref an, rfl, c, an, xs, avs, os, as, Ws, rfl, h1, h2, h3, h4, h5, h6, h7, h8, h9, h10, h11, fun ew H' v L x' lo tp => ?_, fun lt => ⟨h12 lt, fun H' d x' nd hd => ?_⟩⟩
    · have := q H' x'
      rw [if_pos ew] at this
      exact ⟨.non, rfl, this⟩
    · refine ⟨true, TC.te, fun _ a na => ?_, fun z => Bool.noConfusion z⟩
      refine ⟨.ref a, rfl, (by show 5 ≤ sizeLine; decide), fun T nT => ?_⟩
      have xT : Ex [] H' (upd H' T (.tup [.ref C1, .ref C2, .ref C3, .ref C4, .ref C5])) := .new nT
      have hdT : (upd H' T (.tup [.ref C1, .ref C2, .ref C3, .ref C4, .ref C5])) d = some (.xd [("number", .int (as.length : Nat))]) := by rw [upd_ne (ne_of_none hd nT)]; exact hd
      refine ⟨rfl, d, T, _, _, _, false, rfl, hdT, rfl, upd_same, .cons (.own C1) (.cons (.own C2) (.cons (.own C3) (.cons (.own C4) (.cons (.own C5) .nil)))), TC.k3, ?_⟩
      refine ⟨.ref a, rfl, rfl, d, _, .ref CN, .ref CN, true, rfl, hdT, rfl, fun u h => h, TC.k1, _, rfl, iteT ?_⟩
      refine ⟨.ref a, rfl, rfl, d, _, .ty "ValueError", .type "ValueError", true, rfl, hdT, rfl, fun u h => h, TC.k2, _, rfl, iteT ?_⟩
      refine ⟨.bl false, rfl, false, rfl, iteT ?_⟩
      refine ⟨.ref a, rfl, rfl, rfl, d, _, .int (as.length : Nat), rfl, hdT, rfl, ?_⟩
      have := q _ (x'.trans xT)
      rw [if_neg (by omega)] at this
      exact ⟨.int (as.length : Nat), rfl, this⟩
end
end K45

set_option maxHeartbeats 4000000
namespace K45
open PySem PySem.Spec PyProof.Rows L2 Kk RZ
abbrev s_ord : Stmt := topS 42
abbrev n_ord : List Str := ["_law_state", "_law_hands", "_law_h", "_law_g", "_law_i", "_law_some", "_law_k"]
theorem sc_ord : FnScope n_ord ["_law_state", "_law_hands"] (defScope s_ord) := ⟨rfl, rfl, rfl, by decide +kernel, rfl, by decide +kernel, by decide +kernel⟩
abbrev s_isn : Stmt := topS 44
theorem sc_isn : FnScope ["_law_told", "_law_due"] ["_law_told", "_law_due"] (defScope s_isn) := ⟨rfl, rfl, rfl, by decide +kernel, rfl, by decide +kernel, by decide +kernel⟩
def W2 : List Str := [Str.ofString "key", Str.ofString "pin"]
theorem l2 : (2 : Nat) ≤ sizeLine := by decide
theorem l3 : (3 : Nat) ≤ sizeLine := by decide
theorem l4 : (4 : Nat) ≤ sizeLine := by decide
theorem l0 : (0 : Nat) ≤ sizeLine := by decide
/-- an order made -/
def tOE (K : PySem.W.Frag) (mk : Nat → Nat → Nat → Or) : TE := fun σ H Q => ∃ (y0 y1 y5 : Option V) (h g i : Nat), σ = [y0, y1, some (.int (h : Nat)), some (.int (g : Nat)), some (.int (i : Nat)), y5, none] ∧ ∀ H' v, Ex [] H H' → Tp K H' v (orD (mk h g i)) → Q v H'
section
variable {P : Program} {w : World} {K : PySem.W.Frag} {mg : Str → Option Value} {base : Heap}
def spOrd (K : PySem.W.Frag) : Sp := fun vs H Q _ => ∃ (d : Addr) (hh : Int), vs = [.ref d, .int hh] ∧ St2 H d ∧ 0 < hh ∧ hh < 1000 ∧ ∀ H' v o, Ex [d] H H' → St2 H' d → Tp K H' v (orD o) → orOk W2 o → Q v H'
theorem ok_ord {f f1 : Addr} {fd d1 : FuncData} {k : Nat} (F : Fun K "_law_order" "_law_order" s_ord f fd) (C__law_draw : Cl P w K mg base k "_law_draw" ["_law_state", "_law_many"] spDraw f1 d1) (m_range : mg "range" = none) (m_len : mg "len" = none) :
    FnOk P w K mg base CX0 (k + 1) f fd ["_law_state", "_law_hands"] (spOrd K) := by
  refine F.ok sc_ord (fun vs H Q E h => ?_) (fun cdv A outer s H vs Q E hr h => ?_)
  · obtain ⟨d, hh, rfl, _⟩ := h; rfl
  · obtain ⟨d, hh, rfl, hd, hp, hp2, q⟩ := h
    refine ⟨_, (pss_cons (ps_asg (pe_lc (own := [("_law_k", 6)]) (g := gName 6) (tt := tYes) rfl sc_ord.nd (pi_range1 (by rfl) m_range (pa_cons pe_int pa_nil)) (blkOk_by (N := n_ord) (sc := defScope s_ord) (by decide +kernel)) (fun _ _ _ _ _ => pg_name (i := 6) sc_ord.nd rfl (Or.inl rfl)) (fun _ _ _ _ _ => pts_nil) (fun _ _ _ _ _ => (pe_call C__law_draw.g hr (by rfl) C__law_draw.m C__law_draw.k C__law_draw.b .nil pass0 (pa_cons (pv 0) (pa_cons (pv 1) pa_nil))))) (pg_lst rfl (pgs_cons (pg_name (i := 2) sc_ord.nd rfl (.inl rfl)) (pgs_cons (pg_name (i := 3) sc_ord.nd rfl (.inl rfl)) (pgs_cons (pg_name (i := 4) sc_ord.nd rfl (.inl rfl)) pgs_nil)))))
      (pss_cons (ps_set (i := 5) sc_ord.nd rfl (.inl rfl) (pe_lst
        (pa_cons (PE.by (t' := tOE K fun h _ _ => .take h (Str.ofString "key")) (pe_tup (pa_cons pe_str (pa_cons (pv 2) (pa_cons pe_str pa_nil)))) (by
          rintro σ H Q ⟨y0, y1, y5, h, g, i, rfl, q⟩
          exact ⟨.int (h : Nat), rfl, l3, fun t nt => q _ _ (.new nt) (.tup (.of upd_same) (.cons (.str _) (.cons (.int _) (.cons (.str _) .nil))))⟩))
        (pa_cons (PE.by (t' := tOE K fun h _ _ => .ask h) (pe_tup (pa_cons pe_str (pa_cons (pv 2) pa_nil))) (by
          rintro σ H Q ⟨y0, y1, y5, h, g, i, rfl, q⟩
          exact ⟨.int (h : Nat), rfl, l2, fun t nt => q _ _ (.new nt) (.tup (.of upd_same) (.cons (.str _) (.cons (.int _) .nil)))⟩))
        (pa_cons (PE.by (t' := tOE K fun h _ _ => .ask h) (pe_tup (pa_cons pe_str (pa_cons (pv 2) pa_nil))) (by
          rintro σ H Q ⟨y0, y1, y5, h, g, i, rfl, q⟩
          exact ⟨.int (h : Nat), rfl, l2, fun t nt => q _ _ (.new nt) (.tup (.of upd_same) (.cons (.str _) (.cons (.int _) .nil)))⟩))
        (pa_cons (PE.by (t' := tOE K fun h _ _ => .take h (Str.ofString "pin")) (pe_tup (pa_cons pe_str (pa_cons (pv 2) (pa_cons pe_str pa_nil)))) (by
          rintro σ H Q ⟨y0, y1, y5, h, g, i, rfl, q⟩
          exact ⟨.int (h : Nat), rfl, l3, fun t nt => q _ _ (.new nt) (.tup (.of upd_same) (.cons (.str _) (.cons (.int _) (.cons (.str _) .nil))))⟩))
        (pa_cons (PE.by (t' := tOE K fun h _ _ => .number h 5) (pe_tup (pa_cons pe_str (pa_cons (pv 2) (pa_cons pe_int pa_nil)))) (by
          rintro σ H Q ⟨y0, y1, y5, h, g, i, rfl, q⟩
          exact ⟨.int (h : Nat), rfl, l3, fun t nt => q _ _ (.new nt) (.tup (.of upd_same) (.cons (.str _) (.cons (.int _) (.cons (.int _) .nil))))⟩))
        (pa_cons (PE.by (t' := tOE K fun h g _ => .copy h g) (pe_tup (pa_cons pe_str (pa_cons (pv 2) (pa_cons (pv 3) pa_nil)))) (by
          rintro σ H Q ⟨y0, y1, y5, h, g, i, rfl, q⟩
          exact ⟨.int (h : Nat), rfl, .int (g : Nat), rfl, l3, fun t nt => q _ _ (.new nt) (.tup (.of upd_same) (.cons (.str _) (.cons (.int _) (.cons (.int _) .nil))))⟩)) pa_nil))))))))
      (pss_cons (ps_set (i := 5) sc_ord.nd rfl (.inl rfl) (pe_op op_cat (pv 5) (pe_lst
        (pa_cons (PE.by (t' := tOE K fun h g i => .mix h g i) (pe_tup (pa_cons pe_str (pa_cons (pv 2) (pa_cons (pv 3) (pa_cons (pv 4) pa_nil))))) (by
          rintro σ H Q ⟨y0, y1, y5, h, g, i, rfl, q⟩
          exact ⟨.int (h : Nat), rfl, .int (g : Nat), rfl, .int (i : Nat), rfl, l4, fun t nt => q _ _ (.new nt) (.tup (.of upd_same) (.cons (.str _) (.cons (.int _) (.cons (.int _) (.cons (.int _) .nil)))))⟩))
        (pa_cons (PE.by (t' := tOE K fun h _ _ => .tell h) (pe_tup (pa_cons pe_str (pa_cons (pv 2) pa_nil))) (by
          rintro σ H Q ⟨y0, y1, y5, h, g, i, rfl, q⟩
          exact ⟨.int (h : Nat), rfl, l2, fun t nt => q _ _ (.new nt) (.tup (.of upd_same) (.cons (.str _) (.cons (.int _) .nil)))⟩))
        (pa_cons (PE.by (t' := tOE K fun h _ _ => .wipe h) (pe_tup (pa_cons pe_str (pa_cons (pv 2) pa_nil))) (by
          rintro σ H Q ⟨y0, y1, y5, h, g, i, rfl, q⟩
          exact ⟨.int (h : Nat), rfl, l2, fun t nt => q _ _ (.new nt) (.tup (.of upd_same) (.cons (.str _) (.cons (.int _) .nil)))⟩))
        (pa_cons (pe_tup (pa_cons pe_str (pa_cons (pe_call C__law_draw.g hr (by rfl) C__law_draw.m C__law_draw.k C__law_draw.b .nil pass0 (pa_cons (pv 0) (pa_cons pe_int pa_nil))) (pa_cons (pv 2) pa_nil))))
        (pa_cons (PE.by (t' := tOE K fun h g _ => .opn h g) (pe_tup (pa_cons pe_str (pa_cons (pv 2) (pa_cons (pv 3) pa_nil)))) (by
          rintro σ H Q ⟨y0, y1, y5, h, g, i, rfl, q⟩
          exact ⟨.int (h : Nat), rfl, .int (g : Nat), rfl, l3, fun t nt => q _ _ (.new nt) (.tup (.of upd_same) (.cons (.str _) (.cons (.int _) (.cons (.int _) .nil))))⟩)) pa_nil))))))))
      (pss_one (ps_ret (pe_ix ix_list (pv 5) (pe_call C__law_draw.g hr (by rfl) C__law_draw.m C__law_draw.k C__law_draw.b .nil pass0 (pa_cons (pv 0) (pa_cons (pe_callB call_len_seq (by rfl) m_len PySem.boot_len (pa_cons (pv 5) pa_nil)) pa_nil))) (fun _ _ => rfl))))))), ?_⟩
    refine ⟨3, rfl, by decide, by decide, fun D nD => ?_⟩
    have dD := hd.ne nD
    refine lc_range (lo := 0) (n := 3) (fun i H2 => ∃ ns : List Nat, H2 D = some (.lst (ns.map fun n => V.int (n : Nat))) ∧ ns.length = i ∧ Ex [d] H H2 ∧ St2 H2 d) ?_ ?_ ?_
    · exact ⟨[], upd_same, rfl, .new nD, hd.ex (.new nD (xs := [])) (by simp)⟩
    · rintro i H2 hi ⟨ns, hD, hl, x2, s2⟩
      refine ⟨rfl, .ref d, rfl, .int hh, rfl, d, hh, rfl, s2, hp, by omega, fun H3 v a0 a1 x3 s3 => ?_⟩
      have hD3 := x3.lst hD (by simpa using dD)
      have x4 : Ex [D] H3 (upd H3 D (.lst ((ns.map fun n => V.int (n : Nat)) ++ [.int v]))) := .put hD3 nt_lst (by simp)
      refine ⟨_, hD3, by rw [List.length_map, sizeLine_eq]; omega, ns ++ [v.toNat], ?_, by rw [List.length_append, hl]; rfl, Ex.own nD (x2.trans x3) (x4.mono (by simp)), s3.ex x4 (by simpa using dD.symm)⟩
      rw [upd_same, List.map_append]
      have : ((v.toNat : Nat) : Int) = v := Int.toNat_of_nonneg a0
      simp only [List.map_cons, List.map_nil, this]
    · rintro H2 ⟨ns, hD, hl, x2, s2⟩
      obtain ⟨h, g, i, rfl⟩ : ∃ h g i, ns = [h, g, i] := by
        match ns, hl with
        | [h, g, i], _ => exact ⟨h, g, i, rfl⟩
      refine ⟨D, _, rfl, .of hD, rfl, _, _, rfl, _, _, rfl, _, _, rfl, rfl, ?_⟩
      refine ⟨_, _, _, h, g, i, rfl, fun H3 v3 x3 t3 => ⟨_, _, _, h, g, i, rfl, fun H4 v4 x4 t4 => ⟨_, _, _, h, g, i, rfl, fun H5 v5 x5 t5 => ⟨_, _, _, h, g, i, rfl, fun H6 v6 x6 t6 => ⟨_, _, _, h, g, i, rfl, fun H7 v7 x7 t7 => ⟨_, _, _, h, g, i, rfl, fun H8 v8 x8 t8 => ?_⟩⟩⟩⟩⟩⟩
      have x28 : Ex [] H2 H8 := ((((x3.trans x4).trans x5).trans x6).trans x7).trans x8
      have ta : TpAll K H8 [v3, v4, v5, v6, v7, v8] ([Or.take h (Str.ofString "key"), .ask h, .ask h, .take h (Str.ofString "pin"), .number h 5, .copy h g].map orD) :=
        .cons ((((((t3.ex x4).ex x5).ex x6).ex x7).ex x8)) (.cons ((((t4.ex x5).ex x6).ex x7).ex x8) (.cons (((t5.ex x6).ex x7).ex x8) (.cons ((t6.ex x7).ex x8) (.cons (t7.ex x8) (.cons t8 .nil)))))
      refine ⟨(by show 6 ≤ sizeLine; decide), fun L nL => ?_⟩
      have xL : Ex [] H8 (upd H8 L (.lst [v3, v4, v5, v6, v7, v8])) := .new nL
      have x9 := x28.trans xL
      have ta9 := ta.ex xL
      have s9 := s2.ex x9 (by simp)
      have hL9 : (upd H8 L (.lst [v3, v4, v5, v6, v7, v8])) L = some (.lst [v3, v4, v5, v6, v7, v8]) := upd_same
      have nL0 : H L = none := (x2.trans (x28.mono (by simp))).f _ nL
      generalize upd H8 L (.lst [v3, v4, v5, v6, v7, v8]) = H9 at x9 ta9 s9 hL9
      have Ld : L ≠ d := fun z => by
        obtain ⟨zs, hz⟩ := hd.some
        rw [z, hz] at nL0; cases nL0
      refine ⟨.ref L, rfl, _, _, _, h, g, i, rfl, fun Ha va xa ta' => ⟨_, _, _, h, g, i, rfl, fun Hb vb xb tb => ⟨_, _, _, h, g, i, rfl, fun Hc vc xc tc => ?_⟩⟩⟩
      have x9c := (xa.trans xb).trans xc
      refine ⟨.ref d, rfl, d, 60, rfl, s9.ex x9c (by simp), by decide, by decide, fun Hd' sn sa sb xd sd => ?_⟩
      refine ⟨.int (h : Nat), rfl, l3, fun tt ntt => ?_⟩
      have xt : Ex [] Hd' (upd Hd' tt (.tup [.str (Str.ofString "lay"), .int sn, .int (h : Nat)])) := .new ntt
      refine ⟨_, _, _, h, g, i, rfl, fun He ve xe te => ?_⟩
      have x9e : Ex [d] H9 He := ((x9c.mono (by simp)).trans xd).trans ((xt.trans xe).mono (by simp))
      have xce : Ex [d] Hc He := xd.trans ((xt.trans xe).mono (by simp))
      have tl : Tp K He (.ref tt) (orD (.lay sn.toNat h)) := by
        have en : ((sn.toNat : Nat) : Int) = sn := Int.toNat_of_nonneg sa
        show Tp K He (.ref tt) (.tuple [.str (Str.ofString "lay"), .int ((sn.toNat : Nat) : Int), .int (h : Nat)])
        rw [en]
        exact .tup (.of (xe.tup upd_same)) (.cons (.str _) (.cons (.int _) (.cons (.int _) .nil)))
      have tb2 : TpAll K He [va, vb, vc, .ref tt, ve] ([Or.mix h g i, .tell h, .wipe h, .lay sn.toNat h, .opn h g].map orD) :=
        .cons (((ta'.ex xb).ex xc).ex xce) (.cons ((tb.ex xc).ex xce) (.cons (tc.ex xce) (.cons tl (.cons te .nil))))
      refine ⟨(by show 5 ≤ sizeLine; decide), fun M nM => ?_⟩
      have xM : Ex [] He (upd He M (.lst [va, vb, vc, .ref tt, ve])) := .new nM
      refine ⟨L, M, _, _, rfl, rfl, xM.lst (x9e.lst hL9 (by simpa using Ld)), upd_same, by show 6 + 5 ≤ sizeLine; decide, fun R nR => ?_⟩
      have xR : Ex [] (upd He M (.lst [va, vb, vc, .ref tt, ve])) (upd (upd He M (.lst [va, vb, vc, .ref tt, ve])) R (.lst ([v3, v4, v5, v6, v7, v8] ++ [va, vb, vc, .ref tt, ve]))) := .new nR
      have xeR := xM.trans xR
      have sR : St2 (upd (upd He M (.lst [va, vb, vc, .ref tt, ve])) R (.lst ([v3, v4, v5, v6, v7, v8] ++ [va, vb, vc, .ref tt, ve]))) d := ((sd.ex xt (by simp)).ex xe (by simp)).ex xeR (by simp)
      have tR : TpAll K (upd (upd He M (.lst [va, vb, vc, .ref tt, ve])) R (.lst ([v3, v4, v5, v6, v7, v8] ++ [va, vb, vc, .ref tt, ve]))) ([v3, v4, v5, v6, v7, v8] ++ [va, vb, vc, .ref tt, ve]) ([Or.take h (Str.ofString "key"), .ask h, .ask h, .take h (Str.ofString "pin"), .number h 5, .copy h g, .mix h g i, .tell h, .wipe h, .lay sn.toNat h, .opn h g].map orD) := ((ta9.ex x9e).ex xeR).app (tb2.ex xeR)
      have hR : (upd (upd He M (.lst [va, vb, vc, .ref tt, ve])) R (.lst ([v3, v4, v5, v6, v7, v8] ++ [va, vb, vc, .ref tt, ve]))) R = some (.lst ([v3, v4, v5, v6, v7, v8] ++ [va, vb, vc, .ref tt, ve])) := upd_same
      have Rd : R ≠ d := (((sd.ex xt (by simp)).ex xe (by simp)).ex xM (by simp)).ne nR
      have x0R : Ex [d] H (upd (upd He M (.lst [va, vb, vc, .ref tt, ve])) R (.lst ([v3, v4, v5, v6, v7, v8] ++ [va, vb, vc, .ref tt, ve]))) := ((x2.trans (x9.mono (by simp))).trans x9e).trans (xeR.mono (by simp))
      refine ⟨.ref R, rfl, .ref d, rfl, .ref R, rfl, R, _, rfl, .inl (.of hR), d, 11, rfl, sR, by decide, by decide, fun Hf vf af bf xf sf => ?_⟩
      obtain ⟨y, e3, e4⟩ := atZ (xs := [v3, v4, v5, v6, v7, v8] ++ [va, vb, vc, .ref tt, ve]) (v := vf) af (by show vf < 11; exact bf)
      refine ⟨R, _, vf, y, rfl, rfl, .of (xf.lst hR (by simpa using Rd)), e3, ?_⟩
      obtain ⟨dd, hdd, ty⟩ := tR.get e4
      rw [List.getElem?_map] at hdd
      cases ho : [Or.take h (Str.ofString "key"), .ask h, .ask h, .take h (Str.ofString "pin"), .number h 5, .copy h g, .mix h g i, .tell h, .wipe h, .lay sn.toNat h, .opn h g][vf.toNat]? with
      | none => rw [ho] at hdd; cases hdd
      | some o =>
        rw [ho] at hdd
        cases hdd
        refine q _ y o (x0R.trans xf) sf (ty.ex xf) ?_
        have mo := List.mem_of_getElem? ho
        simp only [List.mem_cons, List.not_mem_nil, or_false] at mo
        rcases mo with rfl | rfl | rfl | rfl | rfl | rfl | rfl | rfl | rfl | rfl | rfl <;> first | exact trivial | (show _ ∈ W2; simp [W2])
def spIsn : Sp := fun vs H Q _ => ∃ n : Int, vs = [.int n, .int n] ∧ Q (.bl true) H
theorem ok_isn {f : Addr} {fd : FuncData} {k : Nat} (F : Fun K "_law_is_number" "_law_is_number" s_isn f fd) (m_isinstance : mg "isinstance" = none) (m_int : mg "int" = none) (m_bool : mg "bool" = none) : FnOk P w K mg base CX0 (k + 1) f fd ["_law_told", "_law_due"] spIsn := by
  refine F.ok sc_isn (fun vs H Q E h => ?_) (fun cdv A outer s H vs Q E hr h => ?_)
  · obtain ⟨n, rfl, _⟩ := h; rfl
  · obtain ⟨n, rfl, q⟩ := h
    refine ⟨_, (pss_one (ps_ret (pe_and (pe_callB call_isi (by rfl) m_isinstance (by decide +kernel) (pa_cons (pv 0) (pa_cons (pe_bltn (v := .ty "int") (by rfl) m_int (by decide +kernel) rfl) pa_nil))) (pe_and (pe_not (pe_callB call_isi (by rfl) m_isinstance (by decide +kernel) (pa_cons (pv 0) (pa_cons (pe_bltn (v := .ty "bool") (by rfl) m_bool (by decide +kernel) rfl) pa_nil)))) (pe_one (pe_cmpR op_eq (pv 0) (pv 1) (nomark _))))))), ?_⟩
    refine ⟨.int n, rfl, .int n, .ty "int", .type "int", .type "int", true, rfl, .ty "int", .base (.int n), kit_ty (by decide +kernel), _, rfl, iteT ?_⟩
    refine ⟨.int n, rfl, .int n, .ty "bool", .type "int", .type "bool", false, rfl, .ty "bool", .base (.int n), kit_ty (by decide +kernel), _, rfl, _, rfl, iteT ?_⟩
    refine ⟨.int n, rfl, .int n, rfl, rfl, ?_⟩
    rw [decide_eq_true rfl]; exact q
end
end K45

namespace Kk
open PySem PySem.Spec PyProof.Rows L2
/-! the same data are equal -/
theorem yes_all (n : Nat) : (List.range n).all (fun _ => true) = true := by simp
theorem depth_get : ∀ {ds : List PyData} {i : Nat} {d : PyData}, ds[i]? = some d → d.depth ≤ PyData.depthAll ds
  | [], i, d, h => by simp at h
  | x :: xs, 0, d, h => by
    cases h
    show PyData.depth _ ≤ max (PyData.depth _) _
    omega
  | x :: xs, i + 1, d, h => by
    have := depth_get (ds := xs) (i := i) (by simpa using h)
    show d.depth ≤ max x.depth (PyData.depthAll xs)
    omega
theorem vals_at {xs : List V} {its : List Value} (r : Vals xs its) {j : Nat} (h : j < its.length) : ∃ x, xs[j]? = some x ∧ RelV x its[j] := by
  have hj : j < xs.length := by rw [r.length]; exact h
  obtain ⟨u, hu, ru⟩ := r.get (List.getElem?_eq_getElem hj)
  refine ⟨_, List.getElem?_eq_getElem hj, ?_⟩
  have := (List.getElem?_eq_some_iff.mp hu).2
  rw [this]; exact ru
section
variable {X : Cx} {pins : List (Addr × Obj)} {σ : L2.St} {H : Hp} {s : Shared}
theorem same_at (I : Inv X pins σ H s) : ∀ (n : Nat) (d : PyData) (A : Around) (x y : V) (v u : Value), d.depth ≤ n → A.units + n < cLine → Tp X.K H x d → Tp X.K H y d → RelV x v → RelV y u → SeqAt.EqAt A s v u true := by
  intro n
  induction n with
  | zero =>
    intro d A x y v u hd hu hx hy rx ry
    cases hx with
    | non => cases hy; cases rx; cases ry; exact SeqAt.EqAt.same _
    | bl b => cases hy; cases rx; cases ry; exact SeqAt.EqAt.same _
    | int i =>
      cases hy
      obtain ⟨t, rfl⟩ := rx
      obtain ⟨t', rfl⟩ := ry
      have := SeqAt.EqAt.int_int (A := A) (s := s) i t i t'
      rwa [beq_self_eq_true] at this
    | str z =>
      cases hy
      obtain ⟨t, rfl⟩ := rx
      obtain ⟨t', rfl⟩ := ry
      have := SeqAt.EqAt.str_str (A := A) (s := s) z t z t'
      rwa [beq_self_eq_true] at this
    | tup => exact absurd hd (by show ¬ (PyData.depthAll _ + 1 ≤ 0); omega)
  | succ n ih =>
    intro d A x y v u hd hu hx hy rx ry
    cases hx with
    | non => cases hy; cases rx; cases ry; exact SeqAt.EqAt.same _
    | bl b => cases hy; cases rx; cases ry; exact SeqAt.EqAt.same _
    | int i =>
      cases hy
      obtain ⟨t, rfl⟩ := rx
      obtain ⟨t', rfl⟩ := ry
      have := SeqAt.EqAt.int_int (A := A) (s := s) i t i t'
      rwa [beq_self_eq_true] at this
    | str z =>
      cases hy
      obtain ⟨t, rfl⟩ := rx
      obtain ⟨t', rfl⟩ := ry
      have := SeqAt.EqAt.str_str (A := A) (s := s) z t z t'
      rwa [beq_self_eq_true] at this
    | @tup a xs ds hs ha =>
      cases hy with
      | @tup b ys _ hs2 hb =>
        cases (show v = Value.ref a from rx)
        cases (show u = Value.ref b from ry)
        by_cases hab : a = b
        · rw [hab]; exact SeqAt.EqAt.same _
        · obtain ⟨its, r, pt, hz⟩ := I.tuple hs
          obtain ⟨its2, r2, pt2, hz2⟩ := I.tuple hs2
          have l1 : its.length = ds.length := by rw [← r.length, ha.len]
          have l2 : its2.length = ds.length := by rw [← r2.length, hb.len]
          have hd' : PyData.depthAll ds ≤ n := by
            have : PyData.depthAll ds + 1 ≤ n + 1 := hd
            omega
          have h1 := SeqAt.RcAt.tuples (A := A) (s := s) (e := fun _ => true) pt pt2 (by omega) (fun j h1 h2 => by
            have j1 : j < its.length := by simpa using h1
            have j2 : j < its2.length := by simpa using h2
            obtain ⟨x', ex, rx'⟩ := vals_at r j1
            obtain ⟨y', ey, ry'⟩ := vals_at r2 j2
            obtain ⟨dj, ed, tx⟩ := ha.get ex
            obtain ⟨dj2, ed2, ty⟩ := hb.get ey
            rw [ed] at ed2; cases ed2
            have := ih dj A.in1 x' y' _ _ (Nat.le_trans (depth_get ed) hd') (show A.units + 1 + n < cLine by omega) tx ty rx' ry'
            simpa using this)
          rw [yes_all] at h1
          have e : (its.toArray.size == its2.toArray.size) = true := by simp [l1, l2]
          rw [e] at h1
          exact SeqAt.EqAt.of_refs hab h1
end
section
variable {X : Cx} {K : PySem.W.Frag}
def rSameNe (K : PySem.W.Frag) : V → V → Hp → VK → Prop := fun x y H Q => ∃ d, Tp K H x d ∧ Tp K H y d ∧ d.depth ≤ 64 ∧ Q (.bl false) H
def rSameEq (K : PySem.W.Frag) : V → V → Hp → VK → Prop := fun x y H Q => ∃ d, Tp K H x d ∧ Tp K H y d ∧ d.depth ≤ 64 ∧ Q (.bl true) H
theorem op_neSame (h : X.K = K) (hu : X.A.units + 64 < cLine) : OpR X (compareOp .NotEq) (rSameNe K) := by
  subst h
  intro pins s σ H x y v u Q I rx ry h
  obtain ⟨d, hx, hy, hd, q⟩ := h
  have I0 := I
  cases hx with
  | non =>
    cases hy; cases rx; cases ry
    exact SeqAt.RcNeAt.none_none X.prog X.w X.xe _ ⟨.bl false, H, I, rfl, q⟩
  | bl b =>
    cases hy; cases rx; cases ry
    refine SeqAt.RcNeAt.bool_bool b b X.prog X.w X.xe _ ⟨.bl false, H, I, ?_, q⟩
    rw [beq_self_eq_true]; rfl
  | int i =>
    cases hy
    obtain ⟨t, rfl⟩ := rx
    obtain ⟨t', rfl⟩ := ry
    refine SeqAt.RcNeAt.int_int i t i t' X.prog X.w X.xe _ ⟨.bl false, H, I, ?_, q⟩
    rw [beq_self_eq_true]; rfl
  | str z =>
    cases hy
    obtain ⟨t, rfl⟩ := rx
    obtain ⟨t', rfl⟩ := ry
    refine SeqAt.RcNeAt.str_str z t z t' X.prog X.w X.xe _ ⟨.bl false, H, I, ?_, q⟩
    rw [beq_self_eq_true]; rfl
  | @tup a xs ds hs ha =>
    cases hy with
    | @tup b ys _ hs2 hb =>
      cases (show v = Value.ref a from rx)
      cases (show u = Value.ref b from ry)
      obtain ⟨its, r, pt, hz⟩ := I.tuple hs
      obtain ⟨its2, r2, pt2, hz2⟩ := I.tuple hs2
      have l1 : its.length = ds.length := by rw [← r.length, ha.len]
      have l2 : its2.length = ds.length := by rw [← r2.length, hb.len]
      have hd' : PyData.depthAll ds ≤ 63 := by
        have : PyData.depthAll ds + 1 ≤ 64 := hd
        omega
      refine SeqAt.RcNeAt.tuples (e := fun _ => true) pt pt2 (by omega) (fun j h1 h2 => ?_) X.prog X.w X.xe _ ⟨.bl false, H, I, ?_, q⟩
      · have j1 : j < its.length := by simpa using h1
        have j2 : j < its2.length := by simpa using h2
        obtain ⟨x', ex, rx'⟩ := vals_at r j1
        obtain ⟨y', ey, ry'⟩ := vals_at r2 j2
        obtain ⟨dj, ed, tx⟩ := ha.get ex
        obtain ⟨dj2, ed2, ty⟩ := hb.get ey
        rw [ed] at ed2; cases ed2
        have := same_at I0 63 dj X.A.in1 x' y' _ _ (Nat.le_trans (depth_get ed) hd') (show X.A.units + 1 + 63 < cLine by omega) tx ty rx' ry'
        simpa using this
      · rw [yes_all]
        have e : (its.toArray.size == its2.toArray.size) = true := by simp [l1, l2]
        rw [e]; rfl
theorem op_eqSame (h : X.K = K) (hu : X.A.units + 64 < cLine) : OpR X (compareOp .Eq) (fun x y H Q => ∃ a b ds xs ys, x = .ref a ∧ y = .ref b ∧ SqT K H a xs ∧ SqT K H b ys ∧ TpAll K H xs ds ∧ TpAll K H ys ds ∧ PyData.depthAll ds ≤ 63 ∧ Q (.bl true) H) := by
  subst h
  intro pins s σ H x y v u Q I rx ry h
  obtain ⟨a, b, ds, xs, ys, rfl, rfl, hs, hs2, ha, hb, hd', q⟩ := h
  cases (show v = Value.ref a from rx)
  cases (show u = Value.ref b from ry)
  obtain ⟨its, r, pt, hz⟩ := I.tuple hs
  obtain ⟨its2, r2, pt2, hz2⟩ := I.tuple hs2
  have l1 : its.length = ds.length := by rw [← r.length, ha.len]
  have l2 : its2.length = ds.length := by rw [← r2.length, hb.len]
  refine SeqAt.eq_tupleAt (e := fun _ => true) pt pt2 (by omega) (fun j h1 h2 => ?_) ⟨.bl true, H, I, ?_, q⟩
  · have j1 : j < its.length := by simpa using h1
    have j2 : j < its2.length := by simpa using h2
    obtain ⟨x', ex, rx'⟩ := vals_at r j1
    obtain ⟨y', ey, ry'⟩ := vals_at r2 j2
    obtain ⟨dj, ed, tx⟩ := ha.get ex
    obtain ⟨dj2, ed2, ty⟩ := hb.get ey
    rw [ed] at ed2; cases ed2
    have := same_at I 63 dj X.A.in1 x' y' _ _ (Nat.le_trans (depth_get ed) hd') (show X.A.units + 1 + 63 < cLine by omega) tx ty rx' ry'
    simpa using this
  · rw [yes_all]
    have e : (its.toArray.size == its2.toArray.size) = true := by simp [l1, l2]
    rw [e]; rfl
/-- a tuple held against () -/
theorem op_neNilT (h : X.K = K) (hu : X.A.units + 64 < cLine) : OpR X (compareOp .NotEq) (fun x y H Q => ∃ a b xs, x = .ref a ∧ y = .ref b ∧ SqT K H a xs ∧ SqT K H b [] ∧ Q (.bl (!xs.isEmpty)) H) := by
  subst h
  intro pins s σ H x y v u Q I rx ry h
  obtain ⟨a, b, xs, rfl, rfl, ha, hb, q⟩ := h
  cases (show v = Value.ref a from rx)
  cases (show u = Value.ref b from ry)
  obtain ⟨its, r, pt, hz⟩ := I.tuple ha
  obtain ⟨its2, r2, pt2, hz2⟩ := I.tuple hb
  cases r2
  refine SeqAt.RcNeAt.tuples (e := fun _ => true) pt pt2 (by omega) (fun j h1 h2 => absurd h2 (Nat.not_lt_zero j)) X.prog X.w X.xe _ ⟨.bl (!xs.isEmpty), H, I, ?_, q⟩
  rw [yes_all]
  cases r with
  | nil => rfl
  | cons _ _ => simp; rfl
end
end Kk

set_option maxHeartbeats 4000000
namespace Kk
open PySem PySem.Spec PyProof.Rows L2
section
variable {K : PySem.W.Frag} {H : Hp}
theorem op_in_seqK {X : Cx} (h : X.K = K) : OpR X (compareOp .In) (rIn K false) := by subst h; exact op_in_seq
theorem intsI : ∀ {zs : List V} {l : List Int}, TpAll K H zs (l.map PyData.int) → zs = l.map V.int
  | _, [], h => by cases h; rfl
  | _, a :: l, h => by
    cases h with
    | cons h1 h2 =>
      cases h1
      rw [intsI h2]; rfl
theorem tpTake {vs : List V} {ds : List PyData} (h : TpAll K H vs ds) : ∀ n, TpAll K H (vs.take n) (ds.take n) := by
  induction vs generalizing ds with
  | nil => cases h; intro n; rw [List.take_nil, List.take_nil]; exact .nil
  | cons v vs ih =>
    cases h with
    | cons a b =>
      intro n
      cases n with
      | zero => exact .nil
      | succ n => exact .cons a (ih b n)
theorem tpDrop {vs : List V} {ds : List PyData} (h : TpAll K H vs ds) : ∀ n, TpAll K H (vs.drop n) (ds.drop n) := by
  induction vs generalizing ds with
  | nil => cases h; intro n; rw [List.drop_nil, List.drop_nil]; exact .nil
  | cons v vs ih =>
    cases h with
    | cons a b =>
      intro n
      cases n with
      | zero => exact .cons a b
      | succ n => exact ih b n
theorem cutHi {xs : List V} {n : Nat} : cutV xs none (some (n : Int)) = xs.take n := by
  unfold cutV
  rw [HT.sIx_none, HT.sIx_nat]
  show (xs.drop 0).take (min n xs.length - 0) = xs.take n
  rw [List.drop_zero, Nat.sub_zero]
  by_cases h : n ≤ xs.length
  · rw [Nat.min_eq_left h]
  · rw [Nat.min_eq_right (by omega), List.take_length, List.take_of_length_le (by omega)]
theorem cutLo {xs : List V} {n : Nat} : cutV xs (some (n : Int)) none = xs.drop n := by
  unfold cutV
  rw [HT.sIx_none, HT.sIx_nat]
  show (xs.drop (min n xs.length)).take (xs.length - min n xs.length) = xs.drop n
  by_cases h : n ≤ xs.length
  · rw [Nat.min_eq_left h, List.take_of_length_le (by rw [List.length_drop]; omega)]
  · rw [Nat.min_eq_right (by omega), List.drop_length, List.take_nil, List.drop_of_length_le (by omega)]
theorem tp_take {a : Addr} {xs : List V} {ds : List PyData} {z : Int} {Q : VK} (n : Nat) (hz : z = (n : Nat)) (hs : SqT K H a xs) (h : TpAll K H xs ds) (q : ∀ p H' ys, Ex [] H H' → SqT K H' p ys → TpAll K H' ys (ds.take n) → Q (.ref p) H') : rSlA K (.ref a) none (some z) H Q := by
  subst hz
  refine ⟨a, xs, rfl, hs, fun e => ?_, fun _ p np => ?_⟩
  · have e2 := e.2
    rw [HT.sIx_nat] at e2
    refine q a H xs .refl hs ?_
    rw [List.take_of_length_le (by rw [← h.len]; omega)]; exact h
  · rw [cutHi]
    have x : Ex [] H (upd H p (.tup (xs.take n))) := .new np
    exact q p _ _ x (.of upd_same) ((tpTake h n).ex x)
theorem tp_drop {a : Addr} {xs : List V} {ds : List PyData} {z : Int} {Q : VK} (n : Nat) (hz : z = (n : Nat)) (hs : SqT K H a xs) (h : TpAll K H xs ds) (q : ∀ p H' ys, Ex [] H H' → SqT K H' p ys → TpAll K H' ys (ds.drop n) → Q (.ref p) H') : rSlA K (.ref a) (some z) none H Q := by
  subst hz
  refine ⟨a, xs, rfl, hs, fun e => ?_, fun _ p np => ?_⟩
  · have e1 := e.1
    rw [HT.sIx_nat] at e1
    refine q a H xs .refl hs ?_
    by_cases hn : n = 0
    · rw [hn, List.drop_zero]; exact h
    · have hl : xs.length = 0 := by omega
      have h2 := h.len
      rw [hl] at h2
      have : ds = [] := List.length_eq_zero_iff.mp h2.symm
      rw [this, List.drop_nil]
      rw [this] at h; exact h
  · rw [cutLo]
    have x : Ex [] H (upd H p (.tup (xs.drop n))) := .new np
    exact q p _ _ x (.of upd_same) ((tpDrop h n).ex x)
end
end Kk
namespace K45
open PySem PySem.Spec PyProof.Rows L2 Kk RZ
theorem mem_perm {α : Type} [DecidableEq α] {a b : List α} (h1 : a.Nodup) (h2 : b.Nodup) (h : ∀ x, x ∈ a ↔ x ∈ b) : a.Perm b := by
  rw [List.perm_iff_count]
  intro x
  rw [h1.count, h2.count]
  by_cases z : x ∈ a
  · rw [if_pos z, if_pos ((h x).mp z)]
  · rw [if_neg z, if_neg fun y => z ((h x).mpr y)]
theorem left_uniq {f : Bq → Wv} {L M : List Bq} (h : LeftOk f L) (g : LeftOk f M) : L = M :=
  perm_uniq (fun a b h1 h2 => leB_anti h1 h2) h.1 g.1 (mem_perm h.2.1 g.2.1 fun q => by rw [h.2.2 q, g.2.2 q])
theorem dep_ints : ∀ l : List Int, PyData.depthAll (l.map PyData.int) ≤ 1
  | [] => Nat.zero_le _
  | a :: l => by
    have := dep_ints l
    show max (PyData.depth (.int a)) (PyData.depthAll (l.map .int)) ≤ 1
    have : PyData.depth (.int a) ≤ 1 := by unfold PyData.depth; omega
    omega
theorem dep_strs : ∀ l : List Str, PyData.depthAll (l.map PyData.str) ≤ 1
  | [] => Nat.zero_le _
  | a :: l => by
    have := dep_strs l
    show max (PyData.depth (.str a)) (PyData.depthAll (l.map .str)) ≤ 1
    have : PyData.depth (.str a) ≤ 1 := by unfold PyData.depth; omega
    omega
theorem dep_left {f : Bq → Wv} : ∀ L : List Bq, PyData.depthAll (L.map (leftD f)) ≤ 4
  | [] => Nat.zero_le _
  | q :: L => by
    have h := dep_left (f := f) L
    show max (PyData.depth (leftD f q)) (PyData.depthAll (L.map (leftD f))) ≤ 4
    have := dep_strs (f q).2
    have : PyData.depth (leftD f q) ≤ 4 := by
      unfold leftD
      simp only [PyData.depth, PyData.depthAll]
      omega
    omega
theorem dep_res {td : List Int} {f : Bq → Wv} {L : List Bq} : (resD td f L).depth ≤ 64 := by
  have h1 := dep_ints td
  have h2 := dep_left (f := f) L
  unfold resD
  simp only [PyData.depth, PyData.depthAll]
  omega
theorem wants_le : ∀ os : List Or, wants os ≤ os.length
  | [] => Nat.le_refl _
  | o :: os => by
    have := wants_le os
    unfold wants
    rw [List.length_cons]
    split <;> omega
theorem wants_app : ∀ (os ps : List Or), wants (os ++ ps) = wants os + wants ps
  | [], ps => by simp [wants]
  | x :: os, ps => by
    show (if chW (asW x) > 0 then 1 else 0) + wants (os ++ ps) = (if chW (asW x) > 0 then 1 else 0) + wants os + _
    rw [wants_app os ps]
    omega
theorem inTA (o : Or) : inV (.str (orK o)) [.str (Str.ofString "take"), .str (Str.ofString "ask")] = decide (chW (asW o) > 0) := by
  cases o with
  | take h s => exact (by decide +kernel : inV (.str (Str.ofString "take")) [.str (Str.ofString "take"), .str (Str.ofString "ask")] = true)
  | ask h => exact (by decide +kernel : inV (.str (Str.ofString "ask")) [.str (Str.ofString "take"), .str (Str.ofString "ask")] = true)
  | number h n => exact (by decide +kernel : inV (.str (Str.ofString "number")) [.str (Str.ofString "take"), .str (Str.ofString "ask")] = false)
  | copy h g => exact (by decide +kernel : inV (.str (Str.ofString "copy")) [.str (Str.ofString "take"), .str (Str.ofString "ask")] = false)
  | mix h g i => exact (by decide +kernel : inV (.str (Str.ofString "mix")) [.str (Str.ofString "take"), .str (Str.ofString "ask")] = false)
  | opn h g => exact (by decide +kernel : inV (.str (Str.ofString "open")) [.str (Str.ofString "take"), .str (Str.ofString "ask")] = false)
  | tell h => exact (by decide +kernel : inV (.str (Str.ofString "tell")) [.str (Str.ofString "take"), .str (Str.ofString "ask")] = false)
  | wipe h => exact (by decide +kernel : inV (.str (Str.ofString "wipe")) [.str (Str.ofString "take"), .str (Str.ofString "ask")] = false)
  | lay s h => exact (by decide +kernel : inV (.str (Str.ofString "lay")) [.str (Str.ofString "take"), .str (Str.ofString "ask")] = false)
  | fetch h s => exact (by decide +kernel : inV (.str (Str.ofString "fetch")) [.str (Str.ofString "take"), .str (Str.ofString "ask")] = false)
  | clean s => exact (by decide +kernel : inV (.str (Str.ofString "clean")) [.str (Str.ofString "take"), .str (Str.ofString "ask")] = false)
/-! odd answers -/
def oddD (v : Int) : List PyData := [.int 10000, .int (-1), .int (1000000000000 + v), .bool true, .none, .str (Str.ofString "5"), .tuple [.int 1], .bool false]
def BadD (d : PyData) : Prop := ∀ (K : PySem.W.Frag) (H : Hp) (v : V), Tp K H v d → ∃ o, AnsV K H v o ∧ ¬ ∃ a, o = some a ∧ 0 ≤ a ∧ a < 10000
theorem bad_int {n : Int} (h : ¬ (0 ≤ n ∧ n < 10000)) : BadD (.int n) := fun K H v t => by
  cases t
  exact ⟨_, .int n, fun ⟨a, e, h1, h2⟩ => by cases e; exact h ⟨h1, h2⟩⟩
theorem odd_bad {v : Int} (hv : 0 ≤ v) : ∀ d ∈ oddD v, BadD d := fun d m => by
  unfold oddD at m
  simp only [List.mem_cons, List.not_mem_nil, or_false] at m
  rcases m with rfl | rfl | rfl | rfl | rfl | rfl | rfl | rfl
  · exact bad_int (by omega)
  · exact bad_int (by omega)
  · exact bad_int (by omega)
  · exact fun K H v t => by cases t; exact ⟨none, .bl _, fun ⟨a, e, _⟩ => nomatch e⟩
  · exact fun K H v t => by cases t; exact ⟨none, .non, fun ⟨a, e, _⟩ => nomatch e⟩
  · exact fun K H v t => by cases t; exact ⟨none, .str _, fun ⟨a, e, _⟩ => nomatch e⟩
  · exact fun K H v t => by
      cases t with
      | tup hs ha => exact ⟨none, .tup hs, fun ⟨a, e, _⟩ => nomatch e⟩
  · exact fun K H v t => by cases t; exact ⟨none, .bl _, fun ⟨a, e, _⟩ => nomatch e⟩
theorem W2_ok : ∀ s ∈ W2, PyData.strOk s = true := by decide +kernel
theorem preD {K : PySem.W.Frag} {H : Hp} {c an : Addr} {xs zs : List V} {os : List Or} {as : List Int} {rest : List PyData} (hc : SqT K H c xs) (hx : TpAll K H xs (os.map orD)) (lo : os.length ≤ 100) (oo : ∀ o ∈ os, orOk W2 o) (ha : SqT K H an zs) (hz : TpAll K H zs (as.map .int ++ rest)) (l1 : as.length ≤ wants os)
    (ras : ∀ a ∈ as, 0 ≤ a ∧ a < 10000) (hb : as.length < wants os → rest = [] ∨ ∃ d ds, rest = d :: ds ∧ BadD d) : Pre K H c an os as := by
  have lz := hz.len
  rw [List.length_append, List.length_map] at lz
  refine ⟨xs, zs, W2, hc, hx, lo, oo, ha, l1, by omega, fun i a hi => ?_, ras, by decide, W2_ok, fun lt => ?_⟩
  · have il := (List.getElem?_eq_some_iff.mp hi).1
    have hv := List.getElem?_eq_getElem (show i < zs.length by omega)
    obtain ⟨d, hd, tv⟩ := hz.get hv
    rw [List.getElem?_append_left (by rw [List.length_map]; exact il), List.getElem?_map, hi] at hd
    cases hd
    rw [hv]
    generalize zs[i]'(by omega) = z at tv
    cases tv; rfl
  · rcases hb lt with rfl | ⟨d, ds, rfl, bd⟩
    · exact .inl (by simpa using lz.symm)
    · rw [List.length_cons] at lz
      have hv := List.getElem?_eq_getElem (show as.length < zs.length by omega)
      obtain ⟨d', hd, tv⟩ := hz.get hv
      rw [List.getElem?_append_right (by rw [List.length_map]; exact Nat.le_refl _), List.length_map, Nat.sub_self] at hd
      cases hd
      obtain ⟨o, h1, h2⟩ := bd K H _ tv
      exact .inr ⟨_, o, hv, h1, h2⟩
theorem Pre.ex {K : PySem.W.Frag} {H H' : Hp} {c an : Addr} {os : List Or} {as : List Int} {ys : List Addr} (h : Pre K H c an os as) (e : Ex ys H H') : Pre K H' c an os as := by
  obtain ⟨xs, avs, Ws, h1, h2, h3, h4, h5, h6, h7, h8, h9, h10, h11, h12⟩ := h
  refine ⟨xs, avs, Ws, e.seqT h1, h2.ex e, h3, h4, e.seqT h5, h6, h7, h8, h9, h10, h11, fun lt => ?_⟩
  rcases h12 lt with z | ⟨v, o, a, b, c⟩
  · exact .inl z
  · exact .inr ⟨v, o, a, b.ex e, c⟩
end K45

set_option maxHeartbeats 4000000
namespace K45
open PySem PySem.Spec PyProof.Rows L2 Kk RZ
abbrev s_law : Stmt := topS 45
abbrev n_law : List Str := ["_law_script", "_law_k", "_law_state", "_law_hands", "_law_code", "_law_many", "_law_right", "_law_odd", "_law_turn", "_law_at", "_law_less", "_law_bad", "_law_worse", "_law_answers", "_law_j", "_law_order_here"]
theorem sc_law : FnScope n_law ["_law_script"] (defScope s_law) := ⟨rfl, rfl, rfl, by decide +kernel, rfl, by decide +kernel, by decide +kernel⟩
theorem lt_size {n : Nat} (h : n ≤ 1000) : n < sizeLine := by rw [sizeLine_eq]; omega
def tCode (K : PySem.W.Frag) : TE := fun σ H Q => ∃ (y0 y1 y4 y5 y6 y7 y8 y9 y10 y11 y12 y13 : Option V) (p : Addr) (hh : Int), σ = [y0, y1, some (.ref p), some (.int hh), y4, y5, y6, y7, y8, y9, y10, y11, y12, y13, none, none] ∧ St2 H p ∧ 0 < hh ∧ hh < 1000 ∧
  ∀ (H' : Hp) (c : Addr) (xs : List V) (os : List Or), Ex [p] H H' → St2 H' p → SqT K H' c xs → TpAll K H' xs (os.map orD) → os.length ≤ 40 → (∀ o ∈ os, orOk W2 o) → 0 < wants os → Q (.ref c) H'
def tMany (K : PySem.W.Frag) : TE := fun σ H Q => ∃ (y0 y1 y2 y3 y5 y6 y7 y8 y9 y10 y11 y12 y13 : Option V) (c : Addr) (xs : List V) (os : List Or), σ = [y0, y1, y2, y3, some (.ref c), y5, y6, y7, y8, y9, y10, y11, y12, y13, none, none] ∧ SqT K H c xs ∧ TpAll K H xs (os.map orD) ∧ os.length ≤ 40 ∧
  ∀ H', Ex [] H H' → Q (.int (wants os : Nat)) H'
def tRight (K : PySem.W.Frag) : TE := fun σ H Q => ∃ (y0 y1 y3 y4 y6 y7 y8 y9 y10 y11 y12 y13 : Option V) (p : Addr) (m : Nat), σ = [y0, y1, some (.ref p), y3, y4, some (.int (m : Nat)), y6, y7, y8, y9, y10, y11, y12, y13, none, none] ∧ St2 H p ∧ m ≤ 40 ∧
  ∀ (H' : Hp) (an : Addr) (as : List Int), Ex [p] H H' → St2 H' p → H' an = some (.tup (as.map V.int)) → as.length = m → (∀ a ∈ as, 0 ≤ a ∧ a < 10000) → Q (.ref an) H'
def tOdd (K : PySem.W.Frag) : TE := fun σ H Q => ∃ (y0 y1 y3 y4 y5 y6 y7 y8 y9 y10 y11 y12 y13 : Option V) (p : Addr), σ = [y0, y1, some (.ref p), y3, y4, y5, y6, y7, y8, y9, y10, y11, y12, y13, none, none] ∧ St2 H p ∧
  ∀ (H' : Hp) (od : Addr) (vs : List V) (v : Int), Ex [p] H H' → St2 H' p → od ≠ p → H' od = some (.lst vs) → TpAll K H' vs (oddD v) → 0 ≤ v → Q (.ref od) H'
/-- one of the odd ones -/
def tPick (K : PySem.W.Frag) : TE := fun σ H Q => ∃ (y0 y1 y3 y4 y5 y6 y8 y9 y10 y11 y12 y13 y14 : Option V) (p od : Addr) (vs : List V) (v : Int), σ = [y0, y1, some (.ref p), y3, y4, y5, y6, some (.ref od), y8, y9, y10, y11, y12, y13, y14, none] ∧ St2 H p ∧ od ≠ p ∧ H od = some (.lst vs) ∧ TpAll K H vs (oddD v) ∧
  ∀ (H' : Hp) (y : V) (d : PyData), Ex [p] H H' → St2 H' p → Tp K H' y d → d ∈ oddD v → Q y H'
def tWorse (K : PySem.W.Frag) : TE := fun σ H Q => ∃ (y0 y1 y3 y4 y5 y6 y8 y9 y10 y11 y12 y13 : Option V) (p od : Addr) (vs : List V) (v : Int), σ = [y0, y1, some (.ref p), y3, y4, y5, y6, some (.ref od), y8, y9, y10, y11, y12, y13, none, none] ∧ St2 H p ∧ od ≠ p ∧ H od = some (.lst vs) ∧ TpAll K H vs (oddD v) ∧
  ∀ (H' : Hp) (t : Addr) (zs : List V) (ds : List PyData), Ex [p] H H' → St2 H' p → SqT K H' t zs → TpAll K H' zs ds → ds.length ≤ 3 → Q (.ref t) H'
theorem pick_ok {K : PySem.W.Frag} {H H' : Hp} {p od : Addr} {vs : List V} {v v2 : Int} (hod : H od = some (.lst vs)) (hv : TpAll K H vs (oddD v)) (ne : od ≠ p) (x : Ex [p] H H') (a2 : 0 ≤ v2) (b2 : v2 < 8) : ∃ y d, atI vs v2 = some y ∧ SqL K H' od vs ∧ Tp K H' y d ∧ d ∈ oddD v := by
  have l8 : vs.length = 8 := hv.len
  obtain ⟨y, e1, e2⟩ := atZ (xs := vs) a2 (by rw [l8]; exact b2)
  obtain ⟨d, hd, ty⟩ := hv.get e2
  exact ⟨y, d, e1, .of (x.lst hod (by simpa using ne)), ty.ex x, List.mem_of_getElem? hd⟩
section
variable {P : Program} {w : World} {K : PySem.W.Frag} {mg : Str → Option Value} {base : Heap}
def spLaw (K : PySem.W.Frag) : Sp := fun vs H Q _ => ∃ (s : Addr) (ns : List Int), vs = [.ref s] ∧ SqL K H s (ns.map V.int) ∧ ns.length ≤ 63 ∧ ∀ H', Q (.bl true) H'
theorem ok_law {f f1 f2 f3 f4 f5 f6 f7 CN : Addr} {fd d1 d2 d3 d4 d5 d6 d7 : FuncData} {k : Nat} (F : Fun K "law" "law" s_law f fd)
    (C__law_begin : Cl P w K mg base k "_law_begin" ["_law_cell"] spBegin f1 d1) (C__law_cell_at : Cl P w K mg base k "_law_cell_at" ["_law_script", "_law_k"] (spCell K) f2 d2)
    (C__law_draw : Cl P w K mg base k "_law_draw" ["_law_state", "_law_many"] spDraw f3 d3) (C__law_order : Cl P w K mg base k "_law_order" ["_law_state", "_law_hands"] (spOrd K) f4 d4)
    (C__law_refused : Cl P w K mg base k "_law_refused" ["_law_code", "_law_answers"] (spRef K) f5 d5) (C__law_is_number : Cl P w K mg base k "_law_is_number" ["_law_told", "_law_due"] spIsn f6 d6)
    (GR : FnOk P w K mg base (L2.CX P w) k f7 d7 ["code", "answers"] (spRun K CN)) (kR : PySem.W.keepIn K (.ref f7) = true) (bR : Binds K d7 ["code", "answers"] []) (gR : mg "run_code" = some (.ref f7))
    (m_len : mg "len" = none) (m_range : mg "range" = none) (m_max : mg "max" = none) (m_min : mg "min" = none) (m_tuple : mg "tuple" = none) : FnOk P w K mg base CX0 (k + 1) f fd ["_law_script"] (spLaw K) := by
  refine F.ok sc_law (fun vs H Q E h => ?_) (fun cdv A outer s H vs Q E hr h => ?_)
  · obtain ⟨s, ns, rfl, _⟩ := h; rfl
  · obtain ⟨sc, ns, rfl, hS, hns, q⟩ := h
    refine ⟨_, (pss_cons (ps_for PassesOwn.never rfl (pi_range1 (by rfl) m_range (pa_cons (pe_callB (call_max2 rfl) (by rfl) m_max (by decide +kernel) (pa_cons pe_int (pa_cons (pe_callB (call_min2 rfl) (by rfl) m_min (by decide +kernel) (pa_cons pe_int (pa_cons (pe_callB call_len_seq (by rfl) m_len PySem.boot_len (pa_cons (pv 0) pa_nil)) pa_nil))) pa_nil))) pa_nil)) (pg_name (i := 1) sc_law.nd rfl (.inl rfl)) (pss_cons (ps_set (i := 2) sc_law.nd rfl (.inr rfl) (pe_call C__law_begin.g hr (by rfl) C__law_begin.m C__law_begin.k C__law_begin.b .nil pass0 (pa_cons (pe_call C__law_cell_at.g hr (by rfl) C__law_cell_at.m C__law_cell_at.k C__law_cell_at.b .nil pass0 (pa_cons (pv 0) (pa_cons (pv 1) pa_nil))) pa_nil)))
      (pss_cons (ps_set (i := 3) sc_law.nd rfl (.inr rfl) (pe_op op_add pe_int (pe_call C__law_draw.g hr (by rfl) C__law_draw.m C__law_draw.k C__law_draw.b .nil pass0 (pa_cons (pv 2) (pa_cons pe_int pa_nil)))))
      (pss_cons (ps_set (i := 4) sc_law.nd rfl (.inl rfl) (PE.by (t' := tCode K) (pe_op op_catA (pe_callTy call_tuple_of (by rfl) m_tuple (by decide +kernel) (pa_cons (pe_lc (own := [("_law_j", 14)]) (g := gName 14) (tt := tYes) rfl sc_law.nd (pi_range1 (by rfl) m_range (pa_cons (pe_call C__law_draw.g hr (by rfl) C__law_draw.m C__law_draw.k C__law_draw.b .nil pass0 (pa_cons (pv 2) (pa_cons pe_int pa_nil))) pa_nil)) (blkOk_by (N := n_law) (sc := defScope s_law) (by decide +kernel)) (fun _ _ _ _ _ => pg_name (i := 14) sc_law.nd rfl (Or.inl rfl)) (fun _ _ _ _ _ => pts_nil) (fun _ _ _ _ _ => (pe_call C__law_order.g hr (by rfl) C__law_order.m C__law_order.k C__law_order.b .nil pass0 (pa_cons (pv 2) (pa_cons (pv 3) pa_nil))))) pa_nil)) (pe_tup (pa_cons (pe_tup (pa_cons pe_str (pa_cons pe_int pa_nil))) (pa_cons (pe_tup (pa_cons pe_str (pa_cons pe_int pa_nil))) pa_nil)))) (by
        rintro σ H Q ⟨y0, y1, y4, y5, y6, y7, y8, y9, y10, y11, y12, y13, p, hh, rfl, hs, h1, h2, q⟩
        refine ⟨.ref p, rfl, p, 21, rfl, hs, by decide, by decide, fun H6 v6 a6 b6 x6 s6 => ⟨v6, rfl, by omega, by omega, fun D nD => ?_⟩⟩
        have dD := s6.ne nD
        have nD0 : H D = none := x6.f D nD
        refine lc_range (lo := 0) (n := v6.toNat) (fun i H7 => ∃ (acc : List V) (os : List Or), H7 D = some (.lst acc) ∧ TpAll K H7 acc (os.map orD) ∧ (∀ o ∈ os, orOk W2 o) ∧ os.length = i ∧ Ex [p] H H7 ∧ St2 H7 p) ?_ ?_ ?_
        · exact ⟨[], [], upd_same, .nil, (fun o m => nomatch m), rfl, x6.trans (.new nD), s6.ex (.new nD (xs := [])) (by simp)⟩
        · intro i7 H7 hi7 ⟨acc, os, hD, ht, ho, hl, x7, s7⟩
          refine ⟨rfl, .ref p, rfl, .int hh, rfl, p, hh, rfl, s7, h1, h2, fun H8 v8 o8 x8 s8 t8 k8 => ?_⟩
          have hD8 := x8.lst hD (by simpa using dD)
          have x9 : Ex [D] H8 (upd H8 D (.lst (acc ++ [v8]))) := .put hD8 nt_lst (by simp)
          have la := ht.len
          rw [List.length_map] at la
          refine ⟨acc, hD8, lt_size (by omega), acc ++ [v8], os ++ [o8], upd_same, ?_, fun x hx => ?_, by rw [List.length_append, hl]; rfl, Ex.own nD0 (x7.trans x8) (x9.mono (by simp)), s8.ex x9 (by simpa using dD.symm)⟩
          · rw [List.map_append]
            exact ((ht.ex x8).app (.cons t8 .nil)).ex x9
          · rcases List.mem_append.mp hx with m | m
            · exact ho x m
            · rw [List.mem_singleton.mp m]; exact k8
        · intro H7 ⟨acc, os, hD, ht, ho, hl, x7, s7⟩
          refine ⟨D, acc, rfl, .inl ⟨.of hD, fun c nc => ?_⟩⟩
          have x8 : Ex [] H7 (upd H7 c (.tup acc)) := .new nc
          refine ⟨l2, fun ta na => ⟨l2, fun tb nb => ⟨l2, fun tc ntc => ?_⟩⟩⟩
          have xa : Ex [] (upd H7 c (.tup acc)) (upd (upd H7 c (.tup acc)) ta (.tup [.str (Str.ofString "ask"), .int 0])) := .new na
          have xb : Ex [] (upd (upd H7 c (.tup acc)) ta (.tup [.str (Str.ofString "ask"), .int 0])) (upd (upd (upd H7 c (.tup acc)) ta (.tup [.str (Str.ofString "ask"), .int 0])) tb (.tup [.str (Str.ofString "tell"), .int 0])) := .new nb
          have xc : Ex [] (upd (upd (upd H7 c (.tup acc)) ta (.tup [.str (Str.ofString "ask"), .int 0])) tb (.tup [.str (Str.ofString "tell"), .int 0])) (upd (upd (upd (upd H7 c (.tup acc)) ta (.tup [.str (Str.ofString "ask"), .int 0])) tb (.tup [.str (Str.ofString "tell"), .int 0])) tc (.tup [.ref ta, .ref tb])) := .new ntc
          have x9 := ((x8.trans xa).trans xb).trans xc
          refine tp_cat (K := K) (.of (((xa.trans xb).trans xc).tup upd_same)) (.of upd_same) (ht.ex x9) (.cons (.tup (.of ((xb.trans xc).tup upd_same)) (.cons (.str _) (.cons (.int _) .nil))) (.cons (.tup (.of (xc.tup upd_same)) (.cons (.str _) (.cons (.int _) .nil))) .nil)) (by rw [List.length_map]; show os.length + 2 ≤ 1000; omega) fun p1 H10 zs x10 hs10 ht10 => ?_
          refine q H10 p1 zs (os ++ [.ask 0, .tell 0]) ((x7.trans (x9.mono (by simp))).trans (x10.mono (by simp))) ((s7.ex x9 (by simp)).ex x10 (by simp)) hs10 ?_ (by rw [List.length_append]; show os.length + 2 ≤ 40; omega) (fun o m => ?_) ?_
          · rw [List.map_append]; exact ht10
          · rcases List.mem_append.mp m with m | m
            · exact ho o m
            · simp only [List.mem_cons, List.not_mem_nil, or_false] at m
              rcases m with rfl | rfl <;> exact trivial
          · rw [wants_app]
            have : wants [Or.ask 0, .tell 0] = 1 := rfl
            omega)))
      (pss_cons (ps_set (i := 5) sc_law.nd rfl (.inl rfl) (PE.by (t' := tMany K) (pe_callB call_len_seq (by rfl) m_len PySem.boot_len (pa_cons (pe_lc (own := [("_law_order_here", 15)]) (g := gName 15) rfl sc_law.nd (pi_tup (pv 4)) (blkOk_by (N := n_law) (sc := defScope s_law) (by decide +kernel)) (fun _ _ _ _ _ => pg_name (i := 15) sc_law.nd rfl (Or.inl rfl)) (fun _ _ _ _ _ => pts_one (pt_cmpR (op_in_seqK (K := K) rfl) (pe_ix (ix_tupK (K := K) rfl) (pv 15) pe_int (fun _ _ => rfl)) (pe_tup (pa_cons pe_str (pa_cons pe_str pa_nil))) rfl)) (fun _ _ _ _ _ => (pv 15))) pa_nil)) (by
        rintro σ H Q ⟨y0, y1, y2, y3, y5, y6, y7, y8, y9, y10, y11, y12, y13, c, xs, os, rfl, hc, hx, hl, q⟩
        refine ⟨.ref c, rfl, c, rfl, ⟨xs, hc⟩, fun D nD => ?_⟩
        have lx := hx.len
        rw [List.length_map] at lx
        refine lc_tup (a := c) (xs := xs) (K := K) (fun i H4 => ∃ acc, H4 D = some (.lst acc) ∧ acc.length = wants (os.take i) ∧ Ex [] H H4) ?_ ?_ ?_ ?_
        · exact ⟨[], upd_same, rfl, .new nD⟩
        · rintro i H4 _ ⟨_, _, _, x4⟩
          exact x4.seqT hc
        · rintro i x H4 hxi ⟨acc, hD, la, x4⟩
          obtain ⟨d0, hd0, tx⟩ := hx.get hxi
          rw [List.getElem?_map] at hd0
          cases hoi : os[i]? with
          | none => rw [hoi] at hd0; cases hd0
          | some o =>
            rw [hoi] at hd0
            cases hd0
            have tx4 := tx.ex x4
            unfold orD at tx4
            have ew : wants (os.take (i + 1)) = wants (os.take i) + (if chW (asW o) > 0 then 1 else 0) := by
              rw [List.take_add_one, hoi]
              exact wants_app _ _
            have wl := wants_le (os.take i)
            rw [List.length_take] at wl
            cases tx4 with
            | tup hs ha =>
              rename_i a zs
              cases ha with
              | cons h0 hr1 =>
                cases h0
                refine ⟨rfl, .ref a, rfl, a, _, 0, .str (orK o), rfl, rfl, hs, at0, l2, fun T0 nT0 => ?_⟩
                have x0 : Ex [] H4 (upd H4 T0 (.tup [.str (Str.ofString "take"), .str (Str.ofString "ask")])) := .new nT0
                refine ⟨T0, _, rfl, .inr (.of upd_same), rfl, rfl, _, rfl, ?_⟩
                show if inV (.str (orK o)) [.str (Str.ofString "take"), .str (Str.ofString "ask")] = true then _ else _
                rw [inTA o]
                refine ite2 (fun e => ?_) fun e => ?_
                · have hD0 := x0.lst hD
                  have xp : Ex [D] (upd H4 T0 (.tup [.str (Str.ofString "take"), .str (Str.ofString "ask")])) (upd (upd H4 T0 (.tup [.str (Str.ofString "take"), .str (Str.ofString "ask")])) D (.lst (acc ++ [.ref a]))) := .put hD0 nt_lst (by simp)
                  refine ⟨.ref a, rfl, acc, hD0, lt_size (by omega), acc ++ [.ref a], upd_same, ?_, Ex.own nD (x4.trans x0) (xp.mono (by simp))⟩
                  rw [ew, if_pos (of_decide_eq_true e), List.length_append, la]; rfl
                · refine ⟨acc, x0.lst hD, ?_, x4.trans x0⟩
                  rw [ew, if_neg fun z => e (decide_eq_true z), la]; rfl
        · rintro H4 ⟨acc, hD, la, x4⟩
          rw [lx, List.take_length] at la
          refine ⟨D, acc, rfl, .inl (.of hD), ?_⟩
          rw [la]
          exact q H4 x4)))
      (pss_cons (ps_set (i := 6) sc_law.nd rfl (.inl rfl) (PE.by (t' := tRight K) (pe_callTy call_tuple_of (by rfl) m_tuple (by decide +kernel) (pa_cons (pe_lc (own := [("_law_j", 14)]) (g := gName 14) (tt := tYes) rfl sc_law.nd (pi_range1 (by rfl) m_range (pa_cons (pv 5) pa_nil)) (blkOk_by (N := n_law) (sc := defScope s_law) (by decide +kernel)) (fun _ _ _ _ _ => pg_name (i := 14) sc_law.nd rfl (Or.inl rfl)) (fun _ _ _ _ _ => pts_nil) (fun _ _ _ _ _ => (pe_call C__law_draw.g hr (by rfl) C__law_draw.m C__law_draw.k C__law_draw.b .nil pass0 (pa_cons (pv 2) (pa_cons pe_int pa_nil))))) pa_nil)) (by
        rintro σ H Q ⟨y0, y1, y3, y4, y6, y7, y8, y9, y10, y11, y12, y13, p, m, rfl, hs, hm, q⟩
        refine ⟨.int (m : Nat), rfl, (m : Nat), rfl, by omega, by omega, fun D nD => ?_⟩
        have dD := hs.ne nD
        refine lc_range (lo := 0) (n := ((m : Nat) : Int).toNat) (fun i H7 => ∃ as : List Int, H7 D = some (.lst (as.map V.int)) ∧ as.length = i ∧ (∀ a ∈ as, 0 ≤ a ∧ a < 10000) ∧ Ex [p] H H7 ∧ St2 H7 p) ?_ ?_ ?_
        · exact ⟨[], upd_same, rfl, (fun a m => nomatch m), .new nD, hs.ex (.new nD (xs := [])) (by simp)⟩
        · intro i7 H7 hi7 ⟨as, hD, hl, ho, x7, s7⟩
          refine ⟨rfl, .ref p, rfl, p, 10000, rfl, s7, by decide, by decide, fun H6 v1 a1 b1 x6 s6 => ?_⟩
          have hD6 := x6.lst hD (by simpa using dD)
          have x9 : Ex [D] H6 (upd H6 D (.lst (as.map V.int ++ [.int v1]))) := .put hD6 nt_lst (by simp)
          refine ⟨_, hD6, lt_size (by rw [List.length_map]; omega), as ++ [v1], by rw [upd_same, List.map_append]; rfl, by rw [List.length_append, hl]; rfl, fun x hx => ?_, Ex.own nD (x7.trans x6) (x9.mono (by simp)), s6.ex x9 (by simpa using dD.symm)⟩
          rcases List.mem_append.mp hx with m | m
          · exact ho x m
          · rw [List.mem_singleton.mp m]; exact ⟨a1, b1⟩
        · intro H7 ⟨as, hD, hl, ho, x7, s7⟩
          refine ⟨D, _, rfl, .inl ⟨.of hD, fun c nc => ?_⟩⟩
          have x8 : Ex [] H7 (upd H7 c (.tup (as.map V.int))) := .new nc
          exact q _ c as (x7.trans (x8.mono (by simp))) (s7.ex x8 (by simp)) upd_same (by rw [hl]; rfl) ho)))
      (pss_cons (ps_set (i := 7) sc_law.nd rfl (.inr rfl) (PE.by (t' := tOdd K) (pe_lst (pa_cons pe_int (pa_cons (pe_un un_neg pe_int) (pa_cons (pe_op op_add (pe_op op_pow pe_int pe_int) (pe_call C__law_draw.g hr (by rfl) C__law_draw.m C__law_draw.k C__law_draw.b .nil pass0 (pa_cons (pv 2) (pa_cons pe_int pa_nil)))) (pa_cons pe_bl (pa_cons pe_non (pa_cons pe_str (pa_cons (pe_tup (pa_cons pe_int pa_nil)) (pa_cons pe_bl pa_nil))))))))) (by
        rintro σ H Q ⟨y0, y1, y3, y4, y5, y6, y7, y8, y9, y10, y11, y12, y13, p, rfl, hs, q⟩
        refine ⟨1, rfl, 10, 12, rfl, rfl, ⟨by decide, by decide, by decide⟩, .ref p, rfl, p, 9, rfl, hs, by decide, by decide, fun H3 v a0 a1 x3 s3 => ⟨_, v, rfl, rfl, (by show 1 ≤ sizeLine; decide), fun t nt => ⟨(by show 8 ≤ sizeLine; decide), fun L nL => ?_⟩⟩⟩
        have xt : Ex [] H3 (upd H3 t (.tup [.int 1])) := .new nt
        have xL : Ex [] (upd H3 t (.tup [.int 1])) (upd (upd H3 t (.tup [.int 1])) L (.lst [.int 10000, .int (-1), .int (1000000000000 + v), .bl true, .non, .str (Str.ofString "5"), .ref t, .bl false])) := .new nL
        refine q _ L _ v (x3.trans ((xt.trans xL).mono (by simp))) ((s3.ex xt (by simp)).ex xL (by simp)) ((s3.ex xt (by simp)).ne nL) upd_same ?_ a0
        exact .cons (.int _) (.cons (.int _) (.cons (.int _) (.cons (.bl _) (.cons .non (.cons (.str _) (.cons (.tup (.of (xL.tup upd_same)) (.cons (.int _) .nil)) (.cons (.bl _) .nil))))))))))
      (pss_cons (ps_if (pt_cmpR (op_neSame (K := K) rfl hr.units) (pe_call GR hr (by rfl) gR kR bR .nil (passes_call takes0 (fun _ _ _ _ h => h)) (pa_cons (pv 4) (pa_cons (pv 6) pa_nil))) (pe_call GR hr (by rfl) gR kR bR .nil (passes_call takes0 (fun _ _ _ _ h => h)) (pa_cons (pv 4) (pa_cons (pe_op op_catA (pv 6) (pe_tup (pa_cons (PE.by (t' := tPick K) (pe_ix ix_list (pv 7) (pe_call C__law_draw.g hr (by rfl) C__law_draw.m C__law_draw.k C__law_draw.b .nil pass0 (pa_cons (pv 2) (pa_cons pe_int pa_nil))) (fun _ _ => rfl)) (by
        rintro σ H Q ⟨y0, y1, y3, y4, y5, y6, y8, y9, y10, y11, y12, y13, y14, p, od, vs, v, rfl, hs, ne, hod, hv, q⟩
        refine ⟨.ref od, rfl, .ref p, rfl, p, 8, rfl, hs, by decide, by decide, fun H8 v8 a8 b8 x8 s8 => ?_⟩
        obtain ⟨y, d, e1, e2, e3, e4⟩ := pick_ok hod hv ne x8 a8 b8
        exact ⟨od, vs, v8, y, rfl, rfl, e2, e1, q H8 y d x8 s8 e3 e4⟩)) pa_nil))) pa_nil))) (nomark _)) (pss_one (ps_ret pe_bl)) pss_nil)
      (pss_one (ps_for PassesOwn.never rfl (pi_range1 (by rfl) m_range (pa_cons pe_int pa_nil)) (pg_name (i := 8) sc_law.nd rfl (.inl rfl)) (pss_cons (ps_set (i := 9) sc_law.nd rfl (.inl rfl) (pe_call C__law_draw.g hr (by rfl) C__law_draw.m C__law_draw.k C__law_draw.b .nil pass0 (pa_cons (pv 2) (pa_cons (pv 5) pa_nil))))
      (pss_cons (ps_set (i := 10) sc_law.nd rfl (.inl rfl) (pe_slice sl_tupA (pv 6) po_none (po_some (pv 9))))
      (pss_cons (ps_set (i := 11) sc_law.nd rfl (.inl rfl) (pe_op op_catA (pe_op op_catA (pv 10) (pe_tup (pa_cons (PE.by (t' := tPick K) (pe_ix ix_list (pv 7) (pe_call C__law_draw.g hr (by rfl) C__law_draw.m C__law_draw.k C__law_draw.b .nil pass0 (pa_cons (pv 2) (pa_cons pe_int pa_nil))) (fun _ _ => rfl)) (by
        rintro σ H Q ⟨y0, y1, y3, y4, y5, y6, y8, y9, y10, y11, y12, y13, y14, p, od, vs, v, rfl, hs, ne, hod, hv, q⟩
        refine ⟨.ref od, rfl, .ref p, rfl, p, 8, rfl, hs, by decide, by decide, fun H8 v8 a8 b8 x8 s8 => ?_⟩
        obtain ⟨y, d, e1, e2, e3, e4⟩ := pick_ok hod hv ne x8 a8 b8
        exact ⟨od, vs, v8, y, rfl, rfl, e2, e1, q H8 y d x8 s8 e3 e4⟩)) pa_nil))) (pe_slice sl_tupA (pv 6) (po_some (pe_op op_add (pv 9) pe_int)) po_none)))
      (pss_cons (ps_set (i := 12) sc_law.nd rfl (.inl rfl) (pe_op op_catA (pe_slice sl_tupA (pv 11) po_none (po_some (pe_op op_add (pv 9) pe_int))) (PE.by (t' := tWorse K) (pe_callTy call_tuple_of (by rfl) m_tuple (by decide +kernel) (pa_cons (pe_lc (own := [("_law_j", 14)]) (g := gName 14) (tt := tYes) rfl sc_law.nd (pi_range1 (by rfl) m_range (pa_cons (pe_call C__law_draw.g hr (by rfl) C__law_draw.m C__law_draw.k C__law_draw.b .nil pass0 (pa_cons (pv 2) (pa_cons pe_int pa_nil))) pa_nil)) (blkOk_by (N := n_law) (sc := defScope s_law) (by decide +kernel)) (fun _ _ _ _ _ => pg_name (i := 14) sc_law.nd rfl (Or.inl rfl)) (fun _ _ _ _ _ => pts_nil) (fun _ _ _ _ _ => (pe_ix (ix_listK (K := K) rfl) (pv 7) (pe_call C__law_draw.g hr (by rfl) C__law_draw.m C__law_draw.k C__law_draw.b .nil pass0 (pa_cons (pv 2) (pa_cons pe_int pa_nil))) (fun _ _ => rfl)))) pa_nil)) (by
        rintro σ H Q ⟨y0, y1, y3, y4, y5, y6, y8, y9, y10, y11, y12, y13, p, od, vs, v, rfl, hs, ne, hod, hv, q⟩
        refine ⟨.ref p, rfl, p, 3, rfl, hs, by decide, by decide, fun H6 v6 a6 b6 x6 s6 => ⟨v6, rfl, by omega, by omega, fun D nD => ?_⟩⟩
        have dD := s6.ne nD
        have nD0 : H D = none := x6.f D nD
        have odD : od ≠ D := fun z => by rw [← z, hod] at nD0; cases nD0
        refine lc_range (lo := 0) (n := v6.toNat) (fun i H7 => ∃ (acc : List V) (ds : List PyData), H7 D = some (.lst acc) ∧ TpAll K H7 acc ds ∧ ds.length = i ∧ Ex [p] H H7 ∧ St2 H7 p) ?_ ?_ ?_
        · exact ⟨[], [], upd_same, .nil, rfl, x6.trans (.new nD), s6.ex (.new nD (xs := [])) (by simp)⟩
        · intro i7 H7 hi7 ⟨acc, ds, hD, ht, hl, x7, s7⟩
          refine ⟨rfl, .ref od, rfl, .ref p, rfl, p, 8, rfl, s7, by decide, by decide, fun H8 v8 a8 b8 x8 s8 => ?_⟩
          obtain ⟨y, d, e1, e2, e3, e4⟩ := pick_ok hod hv ne (x7.trans x8) a8 b8
          have hD8 := x8.lst hD (by simpa using dD)
          have x9 : Ex [D] H8 (upd H8 D (.lst (acc ++ [y]))) := .put hD8 nt_lst (by simp)
          have la := ht.len
          refine ⟨od, vs, v8, y, rfl, rfl, e2, e1, acc, hD8, lt_size (by omega), acc ++ [y], ds ++ [d], upd_same, ((ht.ex x8).app (.cons e3 .nil)).ex x9, by rw [List.length_append, hl]; rfl, Ex.own nD0 (x7.trans x8) (x9.mono (by simp)), s8.ex x9 (by simpa using dD.symm)⟩
        · intro H7 ⟨acc, ds, hD, ht, hl, x7, s7⟩
          refine ⟨D, acc, rfl, .inl ⟨.of hD, fun c nc => ?_⟩⟩
          have x8 : Ex [] H7 (upd H7 c (.tup acc)) := .new nc
          exact q _ c acc ds (x7.trans (x8.mono (by simp))) (s7.ex x8 (by simp)) (.of upd_same) (ht.ex x8) (by omega)))))
      (pss_cons (ps_for PassesOwn.never rfl (pi_tup (pe_tup (pa_cons (pv 10) (pa_cons (pv 11) (pa_cons (pv 12) (pa_cons (pv 10) pa_nil)))))) (pg_name (i := 13) sc_law.nd rfl (.inl rfl)) (pss_one (ps_if (pt_not (pt_val (pe_call C__law_is_number.g hr (by rfl) C__law_is_number.m C__law_is_number.k C__law_is_number.b .nil pass0 (pa_cons (pe_call C__law_refused.g hr (by rfl) C__law_refused.m C__law_refused.k C__law_refused.b .nil pass0 (pa_cons (pv 4) (pa_cons (pv 13) pa_nil))) (pa_cons (pv 9) pa_nil))))) (pss_one (ps_ret pe_bl)) pss_nil)))
      (pss_one (ps_if (pt_cmpR op_notN (pe_call C__law_refused.g hr (by rfl) C__law_refused.m C__law_refused.k C__law_refused.b .nil pass0 (pa_cons (pv 4) (pa_cons (pv 6) pa_nil))) pe_non (nomark _)) (pss_one (ps_ret pe_bl)) pss_nil)))))))))))))))))
      (pss_one (ps_ret pe_bl))), ?_⟩
    generalize hmx : (if (if ((ns.map V.int).length : Int) < 4 then ((ns.map V.int).length : Int) else 4) > 1 then (if ((ns.map V.int).length : Int) < 4 then ((ns.map V.int).length : Int) else 4) else 1) = mx0
    have hm : 0 ≤ mx0 ∧ mx0 < 2 ^ 62 := by
      rw [← hmx]
      split
      · split <;> omega
      · omega
    refine ⟨.ref sc, rfl, sc, _, rfl, .inl hS, 4, _, rfl, 1, _, rfl, mx0, by rw [← hmx], by omega, hm.2, for_range (lo := 0) (n := mx0.toNat) (fun i σ H2 => Ex [] H H2 ∧ ∃ y1 y2 y3 y4 y5 y6 y7 y8 y9 y10 y11 y12 y13, σ = [some (.ref sc), y1, y2, y3, y4, y5, y6, y7, y8, y9, y10, y11, y12, y13, none, none]) ⟨.refl, _, _, _, _, _, _, _, _, _, _, _, _, _, rfl⟩ ?_ ?_⟩
    · rintro i σ H2 hi ⟨x2, y1, y2, y3, y4, y5, y6, y7, y8, y9, y10, y11, y12, y13, rfl⟩
      refine ⟨.ref sc, rfl, .int (0 + (i : Int)), rfl, sc, ns, i, by simp, x2.seqL hS, fun n => ⟨n, rfl, fun p H3 np x3 s3 => ?_⟩⟩
      refine ⟨.ref p, rfl, p, 6, rfl, s3, by decide, by decide, fun H4 v4 a4 b4 x4 s4 => ⟨3, v4, rfl, rfl, ?_⟩⟩
      refine ⟨_, _, _, _, _, _, _, _, _, _, _, _, p, 3 + v4, rfl, s4, by omega, by omega, fun H5 c xs os x5 s5 hc hx lo oo wp => ?_⟩
      refine ⟨_, _, _, _, _, _, _, _, _, _, _, _, _, c, xs, os, rfl, hc, hx, lo, fun H6 x6 => ?_⟩
      have wl40 := wants_le os
      refine ⟨_, _, _, _, _, _, _, _, _, _, _, _, p, wants os, rfl, s5.ex x6 (by simp), by omega, fun H7 r as x7 s7 hr7 las ras => ?_⟩
      refine ⟨_, _, _, _, _, _, _, _, _, _, _, _, _, p, rfl, s7, fun H8 od vs v8 x8 s8 odp hod hvs v0 => ?_⟩
      have x58 : Ex [p] H5 H8 := ((x6.mono (by simp)).trans x7).trans x8
      have hc8 : SqT K H8 c xs := x58.seqT hc
      have hx8 := hx.ex x58
      have hr8 : SqT K H8 r (as.map V.int) := .of (x8.tup hr7)
      have tr8 : TpAll K H8 (as.map V.int) (as.map .int) := ints_tp as
      have preR : ∀ {H' : Hp} {ys : List Addr}, Ex ys H8 H' → Pre K H' c r os as := fun {H' ys} e => preD (rest := []) (e.seqT hc8) (hx8.ex e) (by omega) oo (e.seqT hr8) (by rw [List.append_nil]; exact tr8.ex e) (by omega) ras (fun _ => .inl rfl)
      obtain ⟨xs1, avs1, Ws1, e1, e2, e3, e4, e5, e6, e7, e8, e9, e10, e11, e12⟩ := preR (.refl (xs := []) : Ex [] H8 H8)
      refine ⟨.ref c, rfl, .ref r, rfl, c, r, xs1, avs1, os, as, Ws1, rfl, e1, e2, e3, e4, e5, e6, e7, e8, e9, e10, e11, fun _ H9 va La x9 loa tva => ?_, fun lt => absurd lt (by omega)⟩
      have s9 := s8.ex x9 (by simp)
      refine ⟨.ref c, rfl, .ref r, rfl, _, _, _, _, _, _, _, _, _, _, _, _, _, p, od, vs, v8, rfl, s9, odp, x9.lst hod, hvs.ex x9, fun H10 y d x10 s10 ty md => ⟨(by show 1 ≤ sizeLine; decide), fun t nt => ?_⟩⟩
      have xt : Ex [] H10 (upd H10 t (.tup [y])) := .new nt
      have x810 : Ex [p] H8 (upd H10 t (.tup [y])) := ((x9.mono (by simp)).trans x10).trans (xt.mono (by simp))
      refine tp_cat (K := K) (x810.seqT hr8) (.of upd_same) (tr8.ex x810) (.cons (ty.ex xt) .nil) (by rw [List.length_map]; show as.length + 1 ≤ 1000; omega) fun p1 H11 zs x11 hs11 ht11 => ?_
      have x811 : Ex [p] H8 H11 := x810.trans (x11.mono (by simp))
      obtain ⟨xs2, avs2, Ws2, g1, g2, g3, g4, g5, g6, g7, g8, g9, g10, g11, g12⟩ := preD (K := K) (H := H11) (c := c) (an := p1) (rest := [d]) (x811.seqT hc8) (hx8.ex x811) (by omega) oo hs11 ht11 (by omega) ras (fun lt => absurd lt (by omega))
      refine ⟨c, p1, xs2, avs2, os, as, Ws2, rfl, g1, g2, g3, g4, g5, g6, g7, g8, g9, g10, g11, fun _ H12 vb Lb x12 lob tvb => ?_, fun lt => absurd lt (by omega)⟩
      obtain rfl := left_uniq loa lob
      have x912 : Ex [p] H9 H12 := (x10.trans ((xt.trans x11).mono (by simp))).trans (x12.mono (by simp))
      refine ⟨_, tva.ex x912, tvb, dep_res, false, rfl, iteF ?_⟩
      have x812 : Ex [p] H8 H12 := (x9.mono (by simp)).trans x912
      have s12 : St2 H12 p := ((s10.ex xt (by simp)).ex x11 (by simp)).ex x12 (by simp)
      have x28 : Ex [p] H3 H8 := (x4.trans x5).trans x58
      refine ⟨4, rfl, by decide, by decide, for_range (lo := 0) (n := 4) (fun j σ H13 => Ex [p] H12 H13 ∧ St2 H13 p ∧ ∃ y8 y9 y10 y11 y12 y13, σ = [some (.ref sc), some (.int (0 + (i : Int))), some (.ref p), some (.int (3 + v4)), some (.ref c), some (.int (wants os : Nat)), some (.ref r), some (.ref od), y8, y9, y10, y11, y12, y13, none, none]) ⟨.refl, s12, _, _, _, _, _, _, rfl⟩ ?_ ?_⟩
      · rintro j σ H13 hj ⟨x13, s13, z8, z9, z10, z11, z12, z13, rfl⟩
        have x8a : Ex [p] H8 H13 := x812.trans x13
        refine ⟨.ref p, rfl, .int (wants os : Nat), rfl, p, (wants os : Nat), rfl, s13, by omega, by omega, fun H14 at' a14 b14 x14 s14 => ?_⟩
        obtain ⟨n, rfl⟩ : ∃ n : Nat, at' = (n : Nat) := ⟨at'.toNat, by omega⟩
        have nlt : n < as.length := by omega
        have x8b : Ex [p] H8 H14 := x8a.trans x14
        refine ⟨.ref r, rfl, .int (n : Nat), rfl, n, rfl, ?_⟩
        refine tp_take (K := K) n rfl (x8b.seqT hr8) (tr8.ex x8b) fun ls H15 zl x15 hs15 ht15 => ?_
        rw [← List.map_take] at ht15
        have x8c : Ex [p] H8 H15 := x8b.trans (x15.mono (by simp))
        have s15 := s14.ex x15 (by simp)
        refine ⟨.ref ls, rfl, _, _, _, _, _, _, _, _, _, _, _, _, _, p, od, vs, v8, rfl, s15, odp, x8c.lst hod (by simpa using odp), hvs.ex x8c, fun H16 y2 d2 x16 s16 ty2 md2 => ⟨(by show 1 ≤ sizeLine; decide), fun t2 nt2 => ?_⟩⟩
        have xt2 : Ex [] H16 (upd H16 t2 (.tup [y2])) := .new nt2
        have x1516 : Ex [p] H15 (upd H16 t2 (.tup [y2])) := x16.trans (xt2.mono (by simp))
        refine tp_cat (K := K) (x1516.seqT hs15) (.of upd_same) (ht15.ex x1516) (.cons (ty2.ex xt2) .nil) (by rw [List.length_map, List.length_take]; show min n as.length + 1 ≤ 1000; omega) fun pb H17 zb x17 hs17 ht17 => ?_
        have x8d : Ex [p] H8 H17 := x8c.trans (x1516.trans (x17.mono (by simp)))
        refine ⟨.ref r, rfl, .int (n : Nat), rfl, (n : Nat), 1, rfl, rfl, (n : Int) + 1, rfl, ?_⟩
        dsimp only [tNoPart]
        refine tp_drop (K := K) (z := (n : Int) + 1) (n + 1) (by omega) (x8d.seqT hr8) (tr8.ex x8d) fun pd H18 zd x18 hs18 ht18 => ?_
        refine tp_cat (K := K) (x18.seqT hs17) hs18 (ht17.ex x18) ht18 (by rw [List.length_append, List.length_map, List.length_take, List.length_drop, List.length_map]; show min n as.length + 1 + (as.length - (n + 1)) ≤ 1000; omega) fun bd H19 zz x19 hs19 ht19 => ?_
        have x8e : Ex [p] H8 H19 := x8d.trans ((x18.trans x19).mono (by simp))
        have s19 : St2 H19 p := (((s16.ex xt2 (by simp)).ex x17 (by simp)).ex x18 (by simp)).ex x19 (by simp)
        have x1519 : Ex [p] H15 H19 := x1516.trans (((x17.trans x18).trans x19).mono (by simp))
        refine ⟨.ref bd, rfl, .int (n : Nat), rfl, (n : Nat), 1, rfl, rfl, (n : Int) + 1, rfl, ?_⟩
        refine tp_take (K := K) (z := (n : Int) + 1) (n + 1) (by omega) hs19 ht19 fun wq H20 zq x20 hs20 ht20 => ?_
        have et : (List.map PyData.int (List.take n as) ++ [d2] ++ List.drop (n + 1) (List.map PyData.int as)).take (n + 1) = List.map PyData.int (List.take n as) ++ [d2] := by
          rw [List.take_append_of_le_length (by rw [List.length_append, List.length_map, List.length_take]; show n + 1 ≤ min n as.length + 1; omega)]
          rw [List.take_of_length_le (by rw [List.length_append, List.length_map, List.length_take]; show min n as.length + 1 ≤ n + 1; omega)]
        rw [et] at ht20
        have x8f : Ex [p] H8 H20 := x8e.trans (x20.mono (by simp))
        refine ⟨_, _, _, _, _, _, _, _, _, _, _, _, p, od, vs, v8, rfl, s19.ex x20 (by simp), odp, x8f.lst hod (by simpa using odp), hvs.ex x8f, fun H21 tw zw dw x21 s21 hs21 ht21 lw => ?_⟩
        refine tp_cat (K := K) (x21.seqT hs20) hs21 (ht20.ex x21) ht21 (by rw [List.length_append, List.length_map, List.length_take]; show min n as.length + 1 + dw.length ≤ 1000; omega) fun wr H22 zr x22 hs22 ht22 => ?_
        refine ⟨.ref ls, rfl, .ref bd, rfl, .ref wr, rfl, .ref ls, rfl, (by show 4 ≤ sizeLine; decide), fun T nT => ?_⟩
        have xT : Ex [] H22 (upd H22 T (.tup [.ref ls, .ref bd, .ref wr, .ref ls])) := .new nT
        have s22 : St2 H22 p := s21.ex x22 (by simp)
        have x1922 : Ex [p] H19 H22 := ((x20.mono (by simp)).trans x21).trans (x22.mono (by simp))
        have x8g : Ex [p] H8 H22 := x8e.trans x1922
        have lt : (as.take n).length = n := by rw [List.length_take]; omega
        have rt : ∀ a ∈ as.take n, 0 ≤ a ∧ a < 10000 := fun a m => ras a (List.mem_of_mem_take m)
        have bdd := odd_bad v0 d2 md2
        have pl : Pre K H22 c ls os (as.take n) := preD (rest := []) (x8g.seqT hc8) (hx8.ex x8g) (by omega) oo ((x1519.trans x1922).seqT hs15) (by rw [List.append_nil]; exact ht15.ex (x1519.trans x1922)) (by omega) rt (fun _ => .inl rfl)
        have pb2 : Pre K H22 c bd os (as.take n) := preD (rest := d2 :: List.drop (n + 1) (List.map PyData.int as)) (x8g.seqT hc8) (hx8.ex x8g) (by omega) oo (x1922.seqT hs19) (by
          have := ht19.ex x1922
          rw [List.append_assoc] at this
          exact this) (by omega) rt (fun _ => .inr ⟨_, _, rfl, bdd⟩)
        have pw2 : Pre K H22 c wr os (as.take n) := preD (rest := d2 :: dw) (x8g.seqT hc8) (hx8.ex x8g) (by omega) oo hs22 (by
          have := ht22
          rw [List.append_assoc] at this
          exact this) (by omega) rt (fun _ => .inr ⟨_, _, rfl, bdd⟩)
        have giv : ∀ x ∈ [V.ref ls, .ref bd, .ref wr, .ref ls], ∃ g, x = .ref g ∧ Pre K H22 c g os (as.take n) := fun x m => by
          simp only [List.mem_cons, List.not_mem_nil, or_false] at m
          rcases m with rfl | rfl | rfl | rfl
          · exact ⟨_, rfl, pl⟩
          · exact ⟨_, rfl, pb2⟩
          · exact ⟨_, rfl, pw2⟩
          · exact ⟨_, rfl, pl⟩
        have x1222 : Ex [p] H12 H22 := ((((x13.trans x14).trans (x15.mono (by simp))).trans x1519).trans x1922)
        refine ⟨T, rfl, ⟨_, .of upd_same⟩, for_tup (a := T) (xs := [.ref ls, .ref bd, .ref wr, .ref ls]) (fun jj σ H23 => Ex [] (upd H22 T (.tup [.ref ls, .ref bd, .ref wr, .ref ls])) H23 ∧ ∃ y13, σ = [some (.ref sc), some (.int (0 + (i : Int))), some (.ref p), some (.int (3 + v4)), some (.ref c), some (.int (wants os : Nat)), some (.ref r), some (.ref od), some (.int (0 + (j : Int))), some (.int (n : Nat)), some (.ref ls), some (.ref bd), some (.ref wr), y13, none, none]) ⟨.refl, _, rfl⟩ (fun jj σ H23 _ h => .of (h.1.tup upd_same)) ?_ ?_⟩
        · rintro jj x σ H23 hxj ⟨x23, y13', rfl⟩
          obtain ⟨g, rfl, pg⟩ := giv x (List.mem_of_getElem? hxj)
          refine ⟨.ref c, rfl, .ref g, rfl, c, g, os, as.take n, rfl, (pg.ex xT).ex x23, fun H24 x24 => ?_⟩
          rw [if_neg (show ¬ (as.take n).length = wants os by rw [lt]; omega), lt]
          exact ⟨.int (n : Nat), rfl, (n : Nat), rfl, true, rfl, iteF ⟨x23.trans x24, _, rfl⟩⟩
        · rintro σ H23 ⟨x23, y13', rfl⟩
          have x8h : Ex [p] H8 H23 := x8g.trans ((xT.trans x23).mono (by simp))
          refine ⟨.ref c, rfl, .ref r, rfl, c, r, os, as, rfl, preR x8h, fun H24 x24 => ?_⟩
          rw [if_pos las]
          refine ⟨rfl, ?_⟩
          rw [decide_eq_true rfl]
          exact ⟨false, rfl, iteF ⟨x1222.trans (((xT.trans x23).trans x24).mono (by simp)), ((s22.ex xT (by simp)).ex x23 (by simp)).ex x24 (by simp), _, _, _, _, _, _, rfl⟩⟩
      · rintro σ H13 ⟨x13, s13, z8, z9, z10, z11, z12, z13, rfl⟩
        have xx : Ex [p] H3 H13 := (x28.trans x812).trans x13
        exact ⟨x2.trans (Ex.own np .refl ((x3.mono (by simp)).trans xx)), _, _, _, _, _, _, _, _, _, _, _, _, _, rfl⟩
    · rintro σ H2 ⟨x2, y1, y2, y3, y4, y5, y6, y7, y8, y9, y10, y11, y12, y13, rfl⟩
      exact q H2
end
end K45

set_option maxHeartbeats 4000000
namespace Kk
open PySem PySem.Spec PyProof.Rows L2
/-- the end of a law; what the top has told is handed on -/
theorem walkT {l : PySem.W.OpenLaw} {m lev : Nat} {q : Program} {loose : List Str} {XP : (Str → Option Value) → Heap → Prop} {YP : World → Heap → Prop} {dr : DefRec} {K : Params → PySem.W.Frag} {x : Str}
    (most : l.most = some m) (small : m ≤ sizeLine) (nodef : dr.params.defaults = []) (room : Room lev callerA) (written : ∀ (w : World) (h : Heap), YP w h → (K w.params).In h)
    (F : ∀ (w : World) (mg mb : Str → Option Value) (mean : ExcName → Option Value) (fa : Addr) (h : Heap), (K w.params).In h → PyProof.Rows.Top q (PySem.W.looseW q loose) mean mg mb h → mg dr.name = some (.ref fa) →
      LamX.LawAtS l w (K w.params) CX0 lev m x mg fa h) :
    PySem.W.WalkO q loose XP YP l.row.toRowW dr [] (fun f vs => PySem.call f vs) := by
  refine Att.attach_callB most nodef fun w s0 s1 mg mb fa o pm cd doc a vs ns gr Y ho hd hcd hmg hobj hin hlen hbits hgens => ?_
  have inK := written w _ Y
  obtain ⟨fd, tabs, sp, tAt, tOut, tHd, bind, prom, ok⟩ := F w mg mb _ fa _ inK gr.T hmg
  refine LamX.law_callTs inK gr.T.g gr.T.b gr.T.builtins gr.T.nolimit hgens tAt tOut tHd gr.T.bmain hobj hin (Nat.le_trans hlen small) room ok bind ?_ ?_
  · exact fun H hH hS => prom H a ns hlen hbits hH hS
  · exact fun H e s' z => z
end Kk
namespace K45
open PySem PySem.Spec PyProof.Rows L2 Kk RZ
/-- where a def stands -/
structure AtN (K : PySem.W.Frag) (x : Str) (st : Stmt) (f : Addr) (fd : FuncData) : Prop where
  a : PySem.W.nsIn K mainGlobals x = some (some (.ref f))
  F : Fun K x x st f fd
theorem at_mk {K : PySem.W.Frag} {x : Str} {st : Stmt} {f : Addr} {oc : Value} {od an : Option Addr} {sl : Array (Option Value)} {kV doc pm cd ct : Value} (a : PySem.W.nsIn K mainGlobals x = some (some (.ref f)))
    (l : K.lookup f = some ⟨oc, od, .func (PySem.W.fnOf x x (defArgs st) (defBody st) (defScope st) .none kV doc pm an cd ct), sl⟩) (c : PySem.W.codeIn K cd x = true) (k : PySem.W.keepIn K (.ref f) = true) :
    AtN K x st f (PySem.W.fnOf x x (defArgs st) (defBody st) (defScope st) .none kV doc pm an cd ct) := ⟨a, fun_mk l c k⟩
/-- where a def of a class stands -/
structure AtM (K : PySem.W.Frag) (C : Addr) (m x : Str) (st : Stmt) (f : Addr) (fd : FuncData) : Prop where
  a : PySem.W.findIn K (.ref C) m = some (some (.ref f))
  i : PySem.W.isFn K (.ref f) = true
  k : PySem.W.keepIn K (.ref f) = true
  F : Fun K m x st f fd
theorem atM_mk {K : PySem.W.Frag} {C : Addr} {m x : Str} {st : Stmt} {f : Addr} {oc : Value} {od an : Option Addr} {sl : Array (Option Value)} {kV doc pm cd ct : Value} (a : PySem.W.findIn K (.ref C) m = some (some (.ref f))) (i : PySem.W.isFn K (.ref f) = true)
    (l : K.lookup f = some ⟨oc, od, .func (PySem.W.fnOf m x (defArgs st) (defBody st) (defScope st) .none kV doc pm an cd ct), sl⟩) (c : PySem.W.codeIn K cd x = true) (k : PySem.W.keepIn K (.ref f) = true) :
    AtM K C m x st f (PySem.W.fnOf m x (defArgs st) (defBody st) (defScope st) .none kV doc pm an cd ct) := ⟨a, i, k, fun_mk l c k⟩
/-- where a class stands -/
structure AtC (K : PySem.W.Frag) (x : Str) (C : Addr) : Prop where
  a : PySem.W.nsIn K mainGlobals x = some (some (.ref C))
  pg : PySem.W.plainGet K C Str.empty = true
  hd : PySem.W.hasDictIn K C = true
  po : PySem.W.plainOver K C = true
  sa : PySem.W.findIn K (.ref C) "__setattr__" = some (some (.builtin "object.__setattr__"))
  ms : PySem.W.makesIn K C = true
  kc : PySem.W.keepIn K (.ref C) = true
theorem atC_mk {K : PySem.W.Frag} {x : Str} {C : Addr} (a : PySem.W.nsIn K mainGlobals x = some (some (.ref C))) (pg : PySem.W.plainGet K C Str.empty = true) (hd : PySem.W.hasDictIn K C = true) (po : PySem.W.plainOver K C = true) (sa : PySem.W.findIn K (.ref C) "__setattr__" = some (some (.builtin "object.__setattr__"))) (mk : PySem.W.makesIn K C = true) (kc : PySem.W.keepIn K (.ref C) = true) : AtC K x C := ⟨a, pg, hd, po, sa, mk, kc⟩
/-- a tuple of the written part -/
def TuA (K : PySem.W.Frag) (t : Addr) (vs : List V) : Prop := ∃ d its n sl, K.lookup t = some ⟨.type "tuple", d, .seq its n, sl⟩ ∧ its.size ≤ sizeLine ∧ Vals vs its.toList
theorem tuA_mk {K : PySem.W.Frag} {t : Addr} {vs : List V} {d : Option Addr} {its : Array Value} {n : Nat} {sl : Array (Option Value)} (l : K.lookup t = some ⟨.type "tuple", d, .seq its n, sl⟩) (z : its.size ≤ sizeLine) (v : Vals vs its.toList) : TuA K t vs := ⟨d, its, n, sl, l, z, v⟩
theorem TuA.sq {K : PySem.W.Frag} {t : Addr} {vs : List V} (h : TuA K t vs) (H : Hp) : SqT K H t vs := by
  obtain ⟨d, its, n, sl, l, z, v⟩ := h
  exact .inr ⟨_, its, n, l, rfl, rfl, z, v⟩
abbrev s_nai : Stmt := inClass (topS 10) 0
theorem ok_nai {CX : CXT} {P : Program} {w : World} {K : PySem.W.Frag} {mg : Str → Option Value} {base : Heap} {k : Nat} {f CN cc cda : Addr} {kV doc pm ct oc ccl cl : Value} {an od cdd cld : Option Addr} {osl ccs csl : Array (Option Value)} {cvs : Array Value} {file : Str} {tf : Tok} {cdC : ClassData}
    (lk : K.lookup f = some ⟨oc, od, .func (PySem.W.ksFn "__init__" "NoAnswer.__init__" (defArgs s_nai) (defBody s_nai) (defScope s_nai) .none kV doc pm an (.ref cda) ct cc), osl⟩) (hcd : PySem.W.codeIn K (.ref cda) "NoAnswer.__init__" = true)
    (hcode : K.lookup cda = some ⟨ccl, cdd, .fields cvs, ccs⟩) (hvs : cvs[2]? = some (.str file tf)) (hfile : ((P.main.file : Str) == file) = true) (hcell : K.lookup cc = some ⟨cl, cld, .cell (some (.ref CN)), csl⟩) (hC : PySem.W.clsIn K CN = some cdC) (hself : PySem.W.mroIn K CN (.ref CN) = some true) (hsuper : mg "super" = none) (htop : (P.main.scope.names.lookup ("super" : Str)).isSome = false)
    (hm : PySem.W.ks_superIn K CN CN "__init__" = some (some (.builtin "ValueError.__init__"))) (hB : PySem.W.subIn K (.ref CN) (.type "ValueError") = some true) (ho : PySem.W.nsIn K cStatics "thirdparty.any" = some none) (T : OexC K CN) (noF : PySem.W.findIn K (.ref CN) "number" = some none) :
    FnOk P w K mg base CX (k + 1) f (PySem.W.ksFn "__init__" "NoAnswer.__init__" (defArgs s_nai) (defBody s_nai) (defScope s_nai) .none kV doc pm an (.ref cda) ct cc) ["self", "number"] (spNaI CN) :=
  na_init (ar := (defArgs s_nai).args.headD default) lk hcd rfl rfl hcode hvs hfile hcell hC hself hsuper htop rfl rfl rfl rfl rfl rfl rfl (by decide +kernel) hm hB ho (fun _ => rfl) (fun _ => rfl) _ (fun _ => rfl) (fun _ => rfl) T noF
theorem b_nai {K : PySem.W.Frag} {kV doc pm cda ct : Value} {an : Option Addr} {cc : Addr} : Binds K (PySem.W.ksFn "__init__" "NoAnswer.__init__" (defArgs s_nai) (defBody s_nai) (defScope s_nai) .none kV doc pm an cda ct cc) ["self", "number"] [] := .all fun us hl => match us, hl with | [_, _], _ => rfl

theorem all_mk {l : PySem.W.OpenLaw} {w : World} {K : PySem.W.Frag} {q : Program} {loose : List Str} {mean : ExcName → Option Value} {h : Heap} {mg mb : Str → Option Value} {fa fL oA wA pA nA eA npA CF CR CN CW C1 C2 C3 C4 C5 fI cda cc : Addr} {nmN qN : Str} {NN : Addr} {bsN bmN : List Value} {snN : List Str} {subN : List Value} {abN : Bool} {colN : Option Bool} {ddN : Option Addr} {j0 j1 j2 j3 j5 : Option Value} {kVI docI pmI ctI ocI cclI clI : Value} {anI odI cddI cldI : Option Addr} {slI ccsI cslI : Array (Option Value)} {cvsI : Array Value} {fileI : Str} {tfI : Tok} {cdC : ClassData} {f0 f1 f2 f3 f4 f5 f6 f7 f8 f9 f10 f11 f12 f13 : Addr} {p0 p1 p2 p3 p4 : Addr} {t0 t1 t2 t3 t4 t5 t6 t7 t8 t9 t10 : Addr}
    {fd0 fd1 fd2 fd3 fd4 fd5 fd6 fd7 fd8 fd9 fd10 fd11 fd12 fd13 gd0 gd1 gd2 gd3 gd4 : FuncData} {ocL kVL docL pmL cdL ctL : Value} {odL anL : Option Addr} {slL : Array (Option Value)} {nE nW : Nat} {es ws : Array DictEntry} {tk1 tk2 tw0 tw1 tw2 : Tok}
    (X : K.In h) (top : PyProof.Rows.Top q loose mean mg mb h) (hfa : mg "law" = some (.ref fa))
    (KCF : AtC K "Frame" CF) (nCF_place : PySem.W.findIn K (.ref CF) "place" = some none) (nCF_boxes : PySem.W.findIn K (.ref CF) "boxes" = some none)
    (KCR : AtC K "Run" CR) (nCR_program : PySem.W.findIn K (.ref CR) "program" = some none) (nCR_answers : PySem.W.findIn K (.ref CR) "answers" = some none) (nCR_wanted : PySem.W.findIn K (.ref CR) "wanted" = some none) (nCR_steps : PySem.W.findIn K (.ref CR) "steps" = some none) (nCR_told : PySem.W.findIn K (.ref CR) "told" = some none) (nCR_left : PySem.W.findIn K (.ref CR) "left" = some none) (nCR_ending : PySem.W.findIn K (.ref CR) "ending" = some none) (nCR_frames : PySem.W.findIn K (.ref CR) "frames" = some none)
    (B0 : AtM K CF "__init__" "Frame.__init__" s_finit p0 gd0)
    (B1 : AtM K CF "holds" "Frame.holds" s_holds p1 gd1)
    (B2 : AtM K CF "held" "Frame.held" s_held p2 gd2)
    (B3 : AtM K CR "__init__" "Run.__init__" s_rinit p3 gd3)
    (B4 : AtM K CR "next_answer" "Run.next_answer" s_next p4 gd4)
    (A0 : AtN K "is_whole" s_is_whole f0 fd0)
    (A1 : AtN K "first_place" s_first f1 fd1)
    (A2 : AtN K "choices_of" s_choices f2 fd2)
    (A3 : AtN K "empties" s_empties f3 fd3)
    (A4 : AtN K "put_by" s_put f4 fd4)
    (A5 : AtN K "do_boxes" s_do f5 fd5)
    (A6 : AtN K "as_word" s_as f6 fd6)
    (A7 : AtN K "run_code" s_run f7 fd7)
    (A8 : AtN K "_law_cell_at" s_cell f8 fd8)
    (A9 : AtN K "_law_begin" s_begin f9 fd9)
    (A10 : AtN K "_law_draw" s_draw f10 fd10)
    (A11 : AtN K "_law_order" s_ord f11 fd11)
    (A12 : AtN K "_law_refused" s_ref f12 fd12)
    (A13 : AtN K "_law_is_number" s_isn f13 fd13)
    (gN_ : PySem.W.nsIn K mainGlobals "NoAnswer" = some (some (.ref CN))) (gE0 : PySem.W.nsIn K mainGlobals "WipeError" = some (some (.ref CW))) (gE1 : PySem.W.nsIn K mainGlobals "NoCode" = some (some (.ref C1))) (gE2 : PySem.W.nsIn K mainGlobals "NoRow" = some (some (.ref C2))) (gE3 : PySem.W.nsIn K mainGlobals "NoText" = some (some (.ref C3))) (gE4 : PySem.W.nsIn K mainGlobals "NoTurn" = some (some (.ref C4))) (gE5 : PySem.W.nsIn K mainGlobals "TooLong" = some (some (.ref C5)))
    (xL : K.lookup CN = some (excClassObj nmN qN CN NN bsN bmN true snN subN abN colN ddN j0 j1 j2 j3 j5 "ValueError.__new__")) (rV : PySem.HandSPX.refsVE bmN = true) (saN : PySem.W.findIn K (.ref CN) "__setattr__" = some (some (.builtin "object.__setattr__"))) (gaN : PySem.W.findIn K (.ref CN) "__getattribute__" = some (some (.builtin "BaseException.__getattribute__"))) (ggN : PySem.W.findIn K (.ref CN) "__getattr__" = some none) (nbN : PySem.W.findIn K (.ref CN) "number" = some none)
    (a1N : PySem.W.findIn K (.ref CN) "__init__" = some (some (.ref fI))) (t1N : PySem.W.typeIn K (.ref fI) = some (.type "function")) (kCN : PySem.W.keepIn K (.ref CN) = true) (eCN : PySem.W.subIn K (.ref CN) (.type "BaseException") = some true) (tCN : PySem.W.typeIn K (.ref CN) = some (.type "type")) (hdN : PySem.W.hasDictIn K CN = true) (caN : PySem.W.findIn K (.ref CN) "__class__" = some (some (.builtin "object.__class__"))) (snN_ : PySem.W.specialIn K (.builtin "object.__class__") "__get__" = some (some (.builtin "getset_descriptor.__get__"))) (tkN : PySem.W.takesIn K (.builtin "object.__class__") = some true) (moN : PySem.W.mroIn K CN (.type "object") = some true)
    (eCW : PySem.W.subIn K (.ref CW) (.type "BaseException") = some true) (hdW : PySem.W.hasDictIn K CW = true) (tCW : PySem.W.typeIn K (.ref CW) = some (.type "type")) (sCW : PySem.W.subIn K (.ref CN) (.ref CW) = some true)
    (k1N : PySem.W.kitOne K (.ref CN) (.ref CN) = some true) (k2N : PySem.W.kitOne K (.ref CN) (.type "ValueError") = some true) (k3N : PySem.W.kitAny K (.ref CN) [.ref C1, .ref C2, .ref C3, .ref C4, .ref C5] = some false)
    (lkI : K.lookup fI = some ⟨ocI, odI, .func (PySem.W.ksFn "__init__" "NoAnswer.__init__" (defArgs s_nai) (defBody s_nai) (defScope s_nai) .none kVI docI pmI anI (.ref cda) ctI cc), slI⟩) (hcdI : PySem.W.codeIn K (.ref cda) "NoAnswer.__init__" = true) (hcodeI : K.lookup cda = some ⟨cclI, cddI, .fields cvsI, ccsI⟩) (hvsI : cvsI[2]? = some (.str fileI tfI)) (hfileI : ((l.prog.main.file : Str) == fileI) = true) (hcellI : K.lookup cc = some ⟨clI, cldI, .cell (some (.ref CN)), cslI⟩) (hCI : PySem.W.clsIn K CN = some cdC) (hselfI : PySem.W.mroIn K CN (.ref CN) = some true) (htopI : (l.prog.main.scope.names.lookup ("super" : Str)).isSome = false)
    (hmI : PySem.W.ks_superIn K CN CN "__init__" = some (some (.builtin "ValueError.__init__"))) (hBI : PySem.W.subIn K (.ref CN) (.type "ValueError") = some true) (hoI : PySem.W.nsIn K cStatics "thirdparty.any" = some none)
    (aL : PySem.W.nsIn K mainGlobals "law" = some (some (.ref fL))) (lL : K.lookup fL = some ⟨ocL, odL, .func (PySem.W.fnOf "law" "law" (defArgs s_law) (defBody s_law) (defScope s_law) .none kVL docL pmL anL cdL ctL), slL⟩) (cL : PySem.W.codeIn K cdL "law" = true) (kL : PySem.W.keepIn K (.ref fL) = true)
    (gM : PySem.W.nsIn K mainGlobals "MOST_NUMBER" = some (some (.int 9999 tk1))) (gX : PySem.W.nsIn K mainGlobals "MIXED_BY" = some (some (.int 10007 tk2))) (gNP : PySem.W.nsIn K mainGlobals "NO_PROGRAM" = some (some (.ref npA)))
    (gP : PySem.W.nsIn K mainGlobals "PUTTING" = some (some (.ref pA))) (tP : TuA K pA ([Str.ofString "take", Str.ofString "ask", Str.ofString "number", Str.ofString "copy", Str.ofString "mix", Str.ofString "open"].map V.str)) (gN : PySem.W.nsIn K mainGlobals "NOTHING" = some (some (.ref nA))) (tN : TuA K nA [.int 0, .ref eA]) (tE : TuA K eA [])
    (gF : PySem.W.nsIn K mainGlobals "ORDERS" = some (some (.ref oA))) (lF : K.lookup oA = some ⟨.type "dict", none, .dict es nE, #[]⟩) (kl : PySem.W.KeysLit w.params es.toList)
    (m0 : PySem.W.nsIn K oA (Str.ofString "take") = some (some (.ref t0))) (u0 : TuA K t0 (["hand", "name"].map fun s => V.str (Str.ofString s)))
    (m1 : PySem.W.nsIn K oA (Str.ofString "ask") = some (some (.ref t1))) (u1 : TuA K t1 (["hand"].map fun s => V.str (Str.ofString s)))
    (m2 : PySem.W.nsIn K oA (Str.ofString "number") = some (some (.ref t2))) (u2 : TuA K t2 (["hand", "number"].map fun s => V.str (Str.ofString s)))
    (m3 : PySem.W.nsIn K oA (Str.ofString "copy") = some (some (.ref t3))) (u3 : TuA K t3 (["hand", "hand"].map fun s => V.str (Str.ofString s)))
    (m4 : PySem.W.nsIn K oA (Str.ofString "mix") = some (some (.ref t4))) (u4 : TuA K t4 (["hand", "hand", "hand"].map fun s => V.str (Str.ofString s)))
    (m5 : PySem.W.nsIn K oA (Str.ofString "open") = some (some (.ref t5))) (u5 : TuA K t5 (["hand", "hand"].map fun s => V.str (Str.ofString s)))
    (m6 : PySem.W.nsIn K oA (Str.ofString "tell") = some (some (.ref t6))) (u6 : TuA K t6 (["hand"].map fun s => V.str (Str.ofString s)))
    (m7 : PySem.W.nsIn K oA (Str.ofString "wipe") = some (some (.ref t7))) (u7 : TuA K t7 (["hand"].map fun s => V.str (Str.ofString s)))
    (m8 : PySem.W.nsIn K oA (Str.ofString "lay") = some (some (.ref t8))) (u8 : TuA K t8 (["slot", "hand"].map fun s => V.str (Str.ofString s)))
    (m9 : PySem.W.nsIn K oA (Str.ofString "fetch") = some (some (.ref t9))) (u9 : TuA K t9 (["hand", "slot"].map fun s => V.str (Str.ofString s)))
    (m10 : PySem.W.nsIn K oA (Str.ofString "clean") = some (some (.ref t10))) (u10 : TuA K t10 (["slot"].map fun s => V.str (Str.ofString s)))
    (gW : PySem.W.nsIn K mainGlobals "AS_WORDS" = some (some (.ref wA))) (lW : K.lookup wA = some ⟨.type "dict", none, .dict ws nW, #[]⟩) (kw : PySem.W.KeysLit w.params ws.toList) (lo : (wA == sysModules) = false)
    (y0 : PySem.W.nsIn K wA (Str.ofString "lay") = some (some (.str (Str.ofString "copy") tw0)))
    (y1 : PySem.W.nsIn K wA (Str.ofString "fetch") = some (some (.str (Str.ofString "copy") tw1)))
    (y2 : PySem.W.nsIn K wA (Str.ofString "clean") = some (some (.str (Str.ofString "wipe") tw2)))
    (x0 : PySem.W.nsIn K wA (Str.ofString "take") = some none)
    (x1 : PySem.W.nsIn K wA (Str.ofString "ask") = some none)
    (x2 : PySem.W.nsIn K wA (Str.ofString "number") = some none)
    (x3 : PySem.W.nsIn K wA (Str.ofString "copy") = some none)
    (x4 : PySem.W.nsIn K wA (Str.ofString "mix") = some none)
    (x5 : PySem.W.nsIn K wA (Str.ofString "open") = some none)
    (x6 : PySem.W.nsIn K wA (Str.ofString "tell") = some none)
    (x7 : PySem.W.nsIn K wA (Str.ofString "wipe") = some none)
    (z0 : PySem.W.nsIn K mainGlobals "super" = some none) (z1 : PySem.W.nsIn K mainGlobals "ValueError" = some none) (z2 : PySem.W.nsIn K mainGlobals "isinstance" = some none) (z3 : PySem.W.nsIn K mainGlobals "int" = some none) (z4 : PySem.W.nsIn K mainGlobals "bool" = some none) (z5 : PySem.W.nsIn K mainGlobals "tuple" = some none) (z6 : PySem.W.nsIn K mainGlobals "sorted" = some none) (z7 : PySem.W.nsIn K mainGlobals "set" = some none) (z8 : PySem.W.nsIn K mainGlobals "list" = some none) (z9 : PySem.W.nsIn K mainGlobals "zip" = some none) (z10 : PySem.W.nsIn K mainGlobals "len" = some none) (z11 : PySem.W.nsIn K mainGlobals "range" = some none) (z12 : PySem.W.nsIn K mainGlobals "max" = some none) (z13 : PySem.W.nsIn K mainGlobals "min" = some none) :
    LamX.LawAtS l w K CX0 8 63 "_law_script" mg fa h := by
  have G := top.g
  have e := hfa.symm.trans (PySem.W.mg_of X G aL)
  cases e
  have FL := fun_mk (st := s_law) lL cL kL
  refine ⟨PySem.W.fnOf "law" "law" (defArgs s_law) (defBody s_law) (defScope s_law) .none kVL docL pmL anL cdL ctL, [], spLaw K, ?_, ?_, ?_, fun s v => .of_eq rfl, ?_, fun base inB gls tabs => ?_⟩
  · intro p hp; cases hp
  · intro p hp; cases hp
  · intro p hp; cases hp
  · intro H a ns hl _ hH hS
    exact ⟨a, ns, rfl, hS, hl, fun _ => rfl⟩
  · have T : TF K mg CF := ⟨⟨KCF.pg, KCF.hd, KCF.po, KCF.sa⟩, nCF_place, nCF_boxes, PySem.W.mg_of X G KCF.a⟩
    have TRn : TR K mg CR := ⟨⟨KCR.pg, KCR.hd, KCR.po, KCR.sa⟩, nCR_program, nCR_answers, nCR_wanted, nCR_steps, nCR_told, nCR_left, nCR_ending, nCR_frames, PySem.W.mg_of X G KCR.a⟩
    have N : Nth K mg nA eA := ⟨PySem.W.mg_of X G gN, tN.sq, tE.sq⟩
    have one : ∀ k t vs, PySem.W.nsIn K oA k = some (some (.ref t)) → TuA K t vs → ∃ t, KDct K w oA k (.ref t) ∧ ∀ H, SqT K H t vs := fun k t vs h1 h2 => ⟨t, ⟨es, nE, _, lF, kl, h1, rfl⟩, h2.sq⟩
    have no : ∀ k a : Str, PySem.W.nsIn K wA k = some none → a = k → ∃ r : Option Value, PySem.W.nsIn K wA k = some r ∧ (∀ u, r = some u → RelV (.str a) u) ∧ (r = none → a = k) := fun k a h e => ⟨none, h, (fun u z => nomatch z), fun _ => e⟩
    have ye : ∀ (k a : Str) (t : Tok), PySem.W.nsIn K wA k = some (some (.str a t)) → ∃ r : Option Value, PySem.W.nsIn K wA k = some r ∧ (∀ u, r = some u → RelV (.str a) u) ∧ (r = none → a = k) := fun k a t h => ⟨some (.str a t), h, fun u z => by cases z; exact ⟨t, rfl⟩, fun z => nomatch z⟩
    have MO : Ok K w mg oA wA ws nW := ⟨PySem.W.mg_of X G gF, fun o => by
      cases o with
      | take h s => exact one _ _ _ m0 u0
      | ask h => exact one _ _ _ m1 u1
      | number h n => exact one _ _ _ m2 u2
      | copy h g => exact one _ _ _ m3 u3
      | mix h g i => exact one _ _ _ m4 u4
      | opn h g => exact one _ _ _ m5 u5
      | tell h => exact one _ _ _ m6 u6
      | wipe h => exact one _ _ _ m7 u7
      | lay s h => exact one _ _ _ m8 u8
      | fetch h s => exact one _ _ _ m9 u9
      | clean s => exact one _ _ _ m10 u10
      , PySem.W.mg_of X G gW, ⟨lW, kw, lo⟩, fun o => by
      cases o with
      | take h s => exact no _ _ x0 rfl
      | ask h => exact no _ _ x1 rfl
      | number h n => exact no _ _ x2 rfl
      | copy h g => exact no _ _ x3 rfl
      | mix h g i => exact no _ _ x4 rfl
      | opn h g => exact no _ _ x5 rfl
      | tell h => exact no _ _ x6 rfl
      | wipe h => exact no _ _ x7 rfl
      | lay s h => exact ye _ _ _ y0
      | fetch h s => exact ye _ _ _ y1
      | clean s => exact ye _ _ _ y2
      ⟩
    have m_super := PySem.W.mg_none_of X G z0
    have m_ValueError := PySem.W.mg_none_of X G z1
    have m_isinstance := PySem.W.mg_none_of X G z2
    have m_int := PySem.W.mg_none_of X G z3
    have m_bool := PySem.W.mg_none_of X G z4
    have m_tuple := PySem.W.mg_none_of X G z5
    have m_sorted := PySem.W.mg_none_of X G z6
    have m_set := PySem.W.mg_none_of X G z7
    have m_list := PySem.W.mg_none_of X G z8
    have m_zip := PySem.W.mg_none_of X G z9
    have m_len := PySem.W.mg_none_of X G z10
    have m_range := PySem.W.mg_none_of X G z11
    have m_max := PySem.W.mg_none_of X G z12
    have m_min := PySem.W.mg_none_of X G z13
    have gb0 := B0.F.binds (ps := ["self", "place"]) fun _ _ _ _ _ _ us hl => match us, hl with | [_, _], _ => rfl
    have gb1 := B1.F.binds (ps := ["self", "box"]) fun _ _ _ _ _ _ us hl => match us, hl with | [_, _], _ => rfl
    have gb2 := B2.F.binds (ps := ["self"]) fun _ _ _ _ _ _ us hl => match us, hl with | [_], _ => rfl
    have gb3 := B3.F.binds (ps := ["self", "program", "answers"]) fun _ _ _ _ _ _ us hl => match us, hl with | [_, _, _], _ => rfl
    have gb4 := B4.F.binds (ps := ["self", "choices"]) fun _ _ _ _ _ _ us hl => match us, hl with | [_, _], _ => rfl
    have g0 := PySem.W.mg_of X G A0.a
    have b0 := A0.F.binds (ps := ["thing"]) fun _ _ _ _ _ _ us hl => match us, hl with | [_], _ => rfl
    have g1 := PySem.W.mg_of X G A1.a
    have b1 := A1.F.binds (ps := ["program", "name"]) fun _ _ _ _ _ _ us hl => match us, hl with | [_, _], _ => rfl
    have g2 := PySem.W.mg_of X G A2.a
    have b2 := A2.F.binds (ps := ["word"]) fun _ _ _ _ _ _ us hl => match us, hl with | [_], _ => rfl
    have g3 := PySem.W.mg_of X G A3.a
    have b3 := A3.F.binds (ps := ["word", "box"]) fun _ _ _ _ _ _ us hl => match us, hl with | [_, _], _ => rfl
    have g4 := PySem.W.mg_of X G A4.a
    have b4 := A4.F.binds (ps := ["word", "frame", "answer"]) fun _ _ _ _ _ _ us hl => match us, hl with | [_, _, _], _ => rfl
    have g5 := PySem.W.mg_of X G A5.a
    have b5 := A5.F.binds (ps := ["now", "frame", "word", "answer"]) fun _ _ _ _ _ _ us hl => match us, hl with | [_, _, _, _], _ => rfl
    have g6 := PySem.W.mg_of X G A6.a
    have b6 := A6.F.binds (ps := ["order"]) fun _ _ _ _ _ _ us hl => match us, hl with | [_], _ => rfl
    have g7 := PySem.W.mg_of X G A7.a
    have b7 := A7.F.binds (ps := ["code", "answers"]) fun _ _ _ _ _ _ us hl => match us, hl with | [_, _], _ => rfl
    have g8 := PySem.W.mg_of X G A8.a
    have b8 := A8.F.binds (ps := ["_law_script", "_law_k"]) fun _ _ _ _ _ _ us hl => match us, hl with | [_, _], _ => rfl
    have g9 := PySem.W.mg_of X G A9.a
    have b9 := A9.F.binds (ps := ["_law_cell"]) fun _ _ _ _ _ _ us hl => match us, hl with | [_], _ => rfl
    have g10 := PySem.W.mg_of X G A10.a
    have b10 := A10.F.binds (ps := ["_law_state", "_law_many"]) fun _ _ _ _ _ _ us hl => match us, hl with | [_, _], _ => rfl
    have g11 := PySem.W.mg_of X G A11.a
    have b11 := A11.F.binds (ps := ["_law_state", "_law_hands"]) fun _ _ _ _ _ _ us hl => match us, hl with | [_, _], _ => rfl
    have g12 := PySem.W.mg_of X G A12.a
    have b12 := A12.F.binds (ps := ["_law_code", "_law_answers"]) fun _ _ _ _ _ _ us hl => match us, hl with | [_, _], _ => rfl
    have g13 := PySem.W.mg_of X G A13.a
    have b13 := A13.F.binds (ps := ["_law_told", "_law_due"]) fun _ _ _ _ _ _ us hl => match us, hl with | [_, _], _ => rfl
    have m_super := PySem.W.mg_none_of X G z0
    have TO : OexC K CN := ⟨⟨nmN, qN, NN, bsN, bmN, snN, subN, abN, colN, ddN, j0, j1, j2, j3, j5, xL, rV⟩, saN, eCN, tCN, kCN⟩
    have TN : NaT K mg CN fI := ⟨PySem.W.mg_of X G gN_, TO, a1N, t1N⟩
    have TC : NaC K mg CN CW C1 C2 C3 C4 C5 := ⟨PySem.W.mg_of X G gN_, PySem.W.mg_of X G gE0, PySem.W.mg_of X G gE1, PySem.W.mg_of X G gE2, PySem.W.mg_of X G gE3, PySem.W.mg_of X G gE4, PySem.W.mg_of X G gE5, PySem.W.mg_none_of X G z1, PySem.W.exm_ref eCW hdW tCW sCW, ⟨gaN, ggN, eCN, hdN, caN, snN_, tkN, moN⟩, ⟨gaN, ggN, eCN, hdN⟩, nbN, k1N, k2N, k3N⟩
    have o_nai : FnOk l.prog w K mg base CX0 1 fI _ ["self", "number"] (spNaI CN) := ok_nai lkI hcdI hcodeI hvsI hfileI hcellI hCI hselfI m_super htopI hmI hBI hoI TO nbN
    have o_whole : FnOk l.prog w K mg base CX0 1 f0 fd0 ["thing"] (spWholeV K) := ok_wholeV A0.F m_isinstance m_int m_bool
    have o_first : FnOk l.prog w K mg base CX0 1 f1 fd1 ["program", "name"] spFirst := ok_first A1.F
    have o_ch : FnOk l.prog w K mg base CX0 1 f2 fd2 ["word"] (spChoices K) := ok_choices A2.F ⟨_, PySem.W.mg_of X G gM⟩
    have o_em : FnOk l.prog w K mg base CX0 1 f3 fd3 ["word", "box"] (spEmpties K) := ok_empties A3.F
    have o_fi : FnOk l.prog w K mg base CX0 1 p0 gd0 ["self", "place"] (spFInit CF) := ok_finit B0.F T
    have o_ho : FnOk l.prog w K mg base CX0 1 p1 gd1 ["self", "box"] (spHolds K CF) := ok_holds B1.F T N
    have o_hd : FnOk l.prog w K mg base CX0 1 p2 gd2 ["self"] (spHeld K CF) := ok_held B2.F T N m_sorted m_list m_tuple
    have o_put : FnOk l.prog w K mg base CX0 2 f4 fd4 ["word", "frame", "answer"] (spPut K CF) := ok_put A4.F T o_ho ⟨B1.a, B1.i, B1.k⟩ gb1 ⟨_, PySem.W.mg_of X G gX⟩ m_tuple m_sorted m_set
    have o_do : FnOk l.prog w K mg base CX0 3 f5 fd5 ["now", "frame", "word", "answer"] (spDo K CF CR) := ok_do A5.F T N (o_ho.mono (by decide)) ⟨B1.a, B1.i, B1.k⟩ gb1 ⟨o_put.mono (by decide), A4.F.kp, b4, g4⟩ ⟨o_em.mono (by decide), A3.F.kp, b3, g3⟩ TRn.cl TRn.n4 (PySem.W.mg_of X G gP) tP.sq m_list
    have o_ri : FnOk l.prog w K mg base CX0 3 p3 gd3 ["self", "program", "answers"] (spRInit CF CR) := ok_rinit (k := 1) B3.F TRn T ⟨KCF.ms, B0.a, B0.i, KCF.kc⟩ o_fi gb0 ⟨o_first.mono (by decide), A1.F.kp, b1, g1⟩
    have o_nx : FnOk l.prog w K mg base (L2.CX l.prog w) 3 p4 gd4 ["self", "choices"] (spNextX K CR CN) := ok_nextX (k := 1) B4.F TRn TN o_nai b_nai ⟨o_whole.mono (by decide), A0.F.kp, b0, g0⟩ m_len
    have o_as : FnOk l.prog w K mg base CX0 1 f6 fd6 ["order"] (spAs K) := ok_as A6.F MO m_zip m_tuple
    have o_run : FnOk l.prog w K mg base (L2.CX l.prog w) 5 f7 fd7 ["code", "answers"] (spRun K CN) := ok_run (k := 3) A7.F TRn T ⟨KCR.ms, B3.a, B3.i, KCR.kc⟩ o_ri gb3 (o_nx.mono (by decide)) ⟨B4.a, B4.i, B4.k⟩ gb4 (o_hd.mono (by decide)) ⟨B2.a, B2.i, B2.k⟩ gb2 ⟨o_as.mono (by decide), A6.F.kp, b6, g6⟩ ⟨o_ch.mono (by decide), A2.F.kp, b2, g2⟩ ⟨o_do.mono (by decide), A5.F.kp, b5, g5⟩ (PySem.W.mg_of X G gNP) m_tuple m_len
    have o_cell : FnOk l.prog w K mg base CX0 1 f8 fd8 ["_law_script", "_law_k"] (spCell K) := ok_cell A8.F m_len
    have o_begin : FnOk l.prog w K mg base CX0 1 f9 fd9 ["_law_cell"] spBegin := ok_begin A9.F
    have o_draw : FnOk l.prog w K mg base CX0 1 f10 fd10 ["_law_state", "_law_many"] spDraw := ok_draw A10.F
    have o_ord : FnOk l.prog w K mg base CX0 2 f11 fd11 ["_law_state", "_law_hands"] (spOrd K) := ok_ord A11.F ⟨o_draw.mono (by decide), A10.F.kp, b10, g10⟩ m_range m_len
    have o_ref : FnOk l.prog w K mg base CX0 7 f12 fd12 ["_law_code", "_law_answers"] (spRef K) := ok_ref (k := 6) A12.F TC (o_run.mono (by decide)) A7.F.kp b7 g7 m_isinstance
    have o_isn : FnOk l.prog w K mg base CX0 1 f13 fd13 ["_law_told", "_law_due"] spIsn := ok_isn A13.F m_isinstance m_int m_bool
    exact ok_law (k := 7) FL ⟨o_begin.mono (by decide), A9.F.kp, b9, g9⟩ ⟨o_cell.mono (by decide), A8.F.kp, b8, g8⟩ ⟨o_draw.mono (by decide), A10.F.kp, b10, g10⟩ ⟨o_ord.mono (by decide), A11.F.kp, b11, g11⟩ ⟨o_ref.mono (by decide), A12.F.kp, b12, g12⟩ ⟨o_isn.mono (by decide), A13.F.kp, b13, g13⟩ (o_run.mono (by decide)) A7.F.kp b7 g7 m_len m_range m_max m_min m_tuple
end K45

open PySem PySem.W PyProof.Rows
set_option maxRecDepth 100000 in
set_option maxHeartbeats 0 in
theorem PySem.Challenge.cw_wipeways_k45_answers_that_lack_holds : PySem.Challenge.rw_wipeways_k45_answers_that_lack.Holds := by
  w_on; o_law; k_head; (case hw => w_witness2)
  k_fill
  refine Kk.walkT (l := PySem.Challenge.rw_wipeways_k45_answers_that_lack) (m := 63) (lev := 8) (x := "_law_script") rfl (by decide) rfl ⟨rfl, by decide, by decide⟩ (fun w h Y => PySem.W.kIn_of Y) ?F
  case F =>
    intro w mg mb mean fa h KX top hmg
    refine' K45.all_mk KX top hmg (K45.atC_mk ?KaCF ?KpgCF ?KhdCF ?KpoCF ?KsaCF ?KmkCF ?KkcCF) ?nCF_place ?nCF_boxes (K45.atC_mk ?KaCR ?KpgCR ?KhdCR ?KpoCR ?KsaCR ?KmkCR ?KkcCR) ?nCR_program ?nCR_answers ?nCR_wanted ?nCR_steps ?nCR_told ?nCR_left ?nCR_ending ?nCR_frames (K45.atM_mk ?Ba0 ?Bi0 ?Bl0 ?Bc0 ?Bk0) (K45.atM_mk ?Ba1 ?Bi1 ?Bl1 ?Bc1 ?Bk1) (K45.atM_mk ?Ba2 ?Bi2 ?Bl2 ?Bc2 ?Bk2) (K45.atM_mk ?Ba3 ?Bi3 ?Bl3 ?Bc3 ?Bk3) (K45.atM_mk ?Ba4 ?Bi4 ?Bl4 ?Bc4 ?Bk4) (K45.at_mk ?b0 ?l_0 ?c_0 ?k_0) (K45.at_mk ?b1 ?l_1 ?c_1 ?k_1) (K45.at_mk ?b2 ?l_2 ?c_2 ?k_2) (K45.at_mk ?b3 ?l_3 ?c_3 ?k_3) (K45.at_mk ?b4 ?l_4 ?c_4 ?k_4) (K45.at_mk ?b5 ?l_5 ?c_5 ?k_5) (K45.at_mk ?b6 ?l_6 ?c_6 ?k_6) (K45.at_mk ?b7 ?l_7 ?c_7 ?k_7) (K45.at_mk ?b8 ?l_8 ?c_8 ?k_8) (K45.at_mk ?b9 ?l_9 ?c_9 ?k_9) (K45.at_mk ?b10 ?l_10 ?c_10 ?k_10) (K45.at_mk ?b11 ?l_11 ?c_11 ?k_11) (K45.at_mk ?b12 ?l_12 ?c_12 ?k_12) (K45.at_mk ?b13 ?l_13 ?c_13 ?k_13) ?gN_ ?gE0 ?gE1 ?gE2 ?gE3 ?gE4 ?gE5 ?xL ?rV ?saN ?gaN ?ggN ?nbN ?a1N ?t1N ?kCN ?eCN ?tCN ?hdN ?caN ?snN_ ?tkN ?moN ?eCW ?hdW ?tCW ?sCW ?k1N ?k2N ?k3N ?lkI ?hcdI ?hcodeI ?hvsI ?hfileI ?hcellI ?hCI ?hselfI ?htopI ?hmI ?hBI ?hoI ?aL ?lL ?cL ?kL ?gM ?gX ?gNP ?gP (K45.tuA_mk ?tlP ?tzP ?tvP) ?gN (K45.tuA_mk ?tlN ?tzN ?tvN) (K45.tuA_mk ?tlE ?tzE ?tvE) ?gF ?lF ?kl ?m0 (K45.tuA_mk ?tl0 ?tz0 ?tv0) ?m1 (K45.tuA_mk ?tl1 ?tz1 ?tv1) ?m2 (K45.tuA_mk ?tl2 ?tz2 ?tv2) ?m3 (K45.tuA_mk ?tl3 ?tz3 ?tv3) ?m4 (K45.tuA_mk ?tl4 ?tz4 ?tv4) ?m5 (K45.tuA_mk ?tl5 ?tz5 ?tv5) ?m6 (K45.tuA_mk ?tl6 ?tz6 ?tv6) ?m7 (K45.tuA_mk ?tl7 ?tz7 ?tv7) ?m8 (K45.tuA_mk ?tl8 ?tz8 ?tv8) ?m9 (K45.tuA_mk ?tl9 ?tz9 ?tv9) ?m10 (K45.tuA_mk ?tl10 ?tz10 ?tv10) ?gW ?lW ?kw ?lo ?y0 ?y1 ?y2 ?x0 ?x1 ?x2 ?x3 ?x4 ?x5 ?x6 ?x7 ?z0 ?z1 ?z2 ?z3 ?z4 ?z5 ?z6 ?z7 ?z8 ?z9 ?z10 ?z11 ?z12 ?z13
    (case KaCF => k_is); (case KpgCF => k_is); (case KhdCF => k_is); (case KpoCF => k_is); (case KsaCF => k_is); (case KmkCF => k_is); (case KkcCF => k_is)
    (case nCF_place => k_is); (case nCF_boxes => k_is)
    (case KaCR => k_is); (case KpgCR => k_is); (case KhdCR => k_is); (case KpoCR => k_is); (case KsaCR => k_is); (case KmkCR => k_is); (case KkcCR => k_is)
    (case nCR_program => k_is); (case nCR_answers => k_is); (case nCR_wanted => k_is); (case nCR_steps => k_is); (case nCR_told => k_is); (case nCR_left => k_is); (case nCR_ending => k_is); (case nCR_frames => k_is)
    (case Ba0 => k_is); (case Bi0 => k_is); (case Bl0 => k_is); (case Bc0 => k_is); (case Bk0 => k_is)
    (case Ba1 => k_is); (case Bi1 => k_is); (case Bl1 => k_is); (case Bc1 => k_is); (case Bk1 => k_is)
    (case Ba2 => k_is); (case Bi2 => k_is); (case Bl2 => k_is); (case Bc2 => k_is); (case Bk2 => k_is)
    (case Ba3 => k_is); (case Bi3 => k_is); (case Bl3 => k_is); (case Bc3 => k_is); (case Bk3 => k_is)
    (case Ba4 => k_is); (case Bi4 => k_is); (case Bl4 => k_is); (case Bc4 => k_is); (case Bk4 => k_is)
    (case b0 => k_is); (case l_0 => k_is); (case c_0 => k_is); (case k_0 => k_is)
    (case b1 => k_is); (case l_1 => k_is); (case c_1 => k_is); (case k_1 => k_is)
    (case b2 => k_is); (case l_2 => k_is); (case c_2 => k_is); (case k_2 => k_is)
    (case b3 => k_is); (case l_3 => k_is); (case c_3 => k_is); (case k_3 => k_is)
    (case b4 => k_is); (case l_4 => k_is); (case c_4 => k_is); (case k_4 => k_is)
    (case b5 => k_is); (case l_5 => k_is); (case c_5 => k_is); (case k_5 => k_is)
    (case b6 => k_is); (case l_6 => k_is); (case c_6 => k_is); (case k_6 => k_is)
    (case b7 => k_is); (case l_7 => k_is); (case c_7 => k_is); (case k_7 => k_is)
    (case b8 => k_is); (case l_8 => k_is); (case c_8 => k_is); (case k_8 => k_is)
    (case b9 => k_is); (case l_9 => k_is); (case c_9 => k_is); (case k_9 => k_is)
    (case b10 => k_is); (case l_10 => k_is); (case c_10 => k_is); (case k_10 => k_is)
    (case b11 => k_is); (case l_11 => k_is); (case c_11 => k_is); (case k_11 => k_is)
    (case b12 => k_is); (case l_12 => k_is); (case c_12 => k_is); (case k_12 => k_is)
    (case b13 => k_is); (case l_13 => k_is); (case c_13 => k_is); (case k_13 => k_is)
    (case gN_ => k_is); (case gE0 => k_is); (case gE1 => k_is); (case gE2 => k_is); (case gE3 => k_is); (case gE4 => k_is); (case gE5 => k_is)
    (case xL => k_is)
    (case rV => first | rfl | decide +kernel | kernel_rfl)
    (case saN => first | k_is | rfl | kernel_rfl | decide +kernel)
    (case gaN => first | k_is | rfl | kernel_rfl | decide +kernel)
    (case ggN => first | k_is | rfl | kernel_rfl | decide +kernel)
    (case nbN => first | k_is | rfl | kernel_rfl | decide +kernel)
    (case a1N => first | k_is | rfl | kernel_rfl | decide +kernel)
    (case t1N => first | k_is | rfl | kernel_rfl | decide +kernel)
    (case kCN => first | k_is | rfl | kernel_rfl | decide +kernel)
    (case eCN => first | k_is | rfl | kernel_rfl | decide +kernel)
    (case tCN => first | k_is | rfl | kernel_rfl | decide +kernel)
    (case hdN => first | k_is | rfl | kernel_rfl | decide +kernel)
    (case caN => first | k_is | rfl | kernel_rfl | decide +kernel)
    (case snN_ => first | k_is | rfl | kernel_rfl | decide +kernel)
    (case tkN => first | k_is | rfl | kernel_rfl | decide +kernel)
    (case moN => first | k_is | rfl | kernel_rfl | decide +kernel)
    (case eCW => first | k_is | rfl | kernel_rfl | decide +kernel)
    (case hdW => first | k_is | rfl | kernel_rfl | decide +kernel)
    (case tCW => first | k_is | rfl | kernel_rfl | decide +kernel)
    (case sCW => first | k_is | rfl | kernel_rfl | decide +kernel)
    (case k1N => first | k_is | rfl | kernel_rfl | decide +kernel)
    (case k2N => first | k_is | rfl | kernel_rfl | decide +kernel)
    (case k3N => first | k_is | rfl | kernel_rfl | decide +kernel)
    (case lkI => first | k_is | rfl | kernel_rfl | decide +kernel)
    (case hcdI => first | k_is | rfl | kernel_rfl | decide +kernel)
    (case hcodeI => first | k_is | rfl | kernel_rfl | decide +kernel)
    (case hvsI => rfl)
    (case hcellI => first | k_is | rfl | kernel_rfl)
    (case hCI => first | k_is | rfl | kernel_rfl)
    (case hselfI => first | k_is | rfl | kernel_rfl)
    (case hfileI => first | rfl | decide +kernel | kernel_rfl)
    (case htopI => first | rfl | decide +kernel | kernel_rfl)
    (case hmI => first | ks_is | rfl | kernel_rfl)
    (case hBI => first | k_is | rfl | kernel_rfl)
    (case hoI => first | k_is | rfl | kernel_rfl)
    (case aL => k_is); (case lL => k_is); (case cL => k_is); (case kL => k_is); (case gM => k_is); (case gX => k_is); (case gNP => k_is); (case gP => k_is)
    (case tlP => k_is); (case tzP => decide); (case tvP => exact .cons ⟨_, rfl⟩ (.cons ⟨_, rfl⟩ (.cons ⟨_, rfl⟩ (.cons ⟨_, rfl⟩ (.cons ⟨_, rfl⟩ (.cons ⟨_, rfl⟩ (.nil)))))))
    (case gN => k_is); (case tlN => k_is); (case tzN => decide); (case tvN => exact .cons ⟨_, rfl⟩ (.cons rfl .nil))
    (case tlE => k_is); (case tzE => decide); (case tvE => exact .nil)
    (case gF => k_is); (case lF => k_is)
    (case m0 => k_is); (case tl0 => k_is); (case tz0 => decide); (case tv0 => exact .cons ⟨_, rfl⟩ (.cons ⟨_, rfl⟩ (.nil)))
    (case m1 => k_is); (case tl1 => k_is); (case tz1 => decide); (case tv1 => exact .cons ⟨_, rfl⟩ (.nil))
    (case m2 => k_is); (case tl2 => k_is); (case tz2 => decide); (case tv2 => exact .cons ⟨_, rfl⟩ (.cons ⟨_, rfl⟩ (.nil)))
    (case m3 => k_is); (case tl3 => k_is); (case tz3 => decide); (case tv3 => exact .cons ⟨_, rfl⟩ (.cons ⟨_, rfl⟩ (.nil)))
    (case m4 => k_is); (case tl4 => k_is); (case tz4 => decide); (case tv4 => exact .cons ⟨_, rfl⟩ (.cons ⟨_, rfl⟩ (.cons ⟨_, rfl⟩ (.nil))))
    (case m5 => k_is); (case tl5 => k_is); (case tz5 => decide); (case tv5 => exact .cons ⟨_, rfl⟩ (.cons ⟨_, rfl⟩ (.nil)))
    (case m6 => k_is); (case tl6 => k_is); (case tz6 => decide); (case tv6 => exact .cons ⟨_, rfl⟩ (.nil))
    (case m7 => k_is); (case tl7 => k_is); (case tz7 => decide); (case tv7 => exact .cons ⟨_, rfl⟩ (.nil))
    (case m8 => k_is); (case tl8 => k_is); (case tz8 => decide); (case tv8 => exact .cons ⟨_, rfl⟩ (.cons ⟨_, rfl⟩ (.nil)))
    (case m9 => k_is); (case tl9 => k_is); (case tz9 => decide); (case tv9 => exact .cons ⟨_, rfl⟩ (.cons ⟨_, rfl⟩ (.nil)))
    (case m10 => k_is); (case tl10 => k_is); (case tz10 => decide); (case tv10 => exact .cons ⟨_, rfl⟩ (.nil))
    (case gW => k_is); (case lW => k_is)
    (case y0 => k_is); (case y1 => k_is); (case y2 => k_is)
    (case x0 => k_is); (case x1 => k_is); (case x2 => k_is); (case x3 => k_is); (case x4 => k_is); (case x5 => k_is); (case x6 => k_is); (case x7 => k_is)
    (case z0 => k_is); (case z1 => k_is); (case z2 => k_is); (case z3 => k_is); (case z4 => k_is); (case z5 => k_is); (case z6 => k_is); (case z7 => k_is); (case z8 => k_is); (case z9 => k_is); (case z10 => k_is); (case z11 => k_is); (case z12 => k_is); (case z13 => k_is)
    (case kl => exact ⟨⟨_, _, rfl, rfl⟩, ⟨⟨_, _, rfl, rfl⟩, ⟨⟨_, _, rfl, rfl⟩, ⟨⟨_, _, rfl, rfl⟩, ⟨⟨_, _, rfl, rfl⟩, ⟨⟨_, _, rfl, rfl⟩, ⟨⟨_, _, rfl, rfl⟩, ⟨⟨_, _, rfl, rfl⟩, ⟨⟨_, _, rfl, rfl⟩, ⟨⟨_, _, rfl, rfl⟩, ⟨⟨_, _, rfl, rfl⟩, trivial⟩⟩⟩⟩⟩⟩⟩⟩⟩⟩⟩)
    (case kw => exact ⟨⟨_, _, rfl, rfl⟩, ⟨⟨_, _, rfl, rfl⟩, ⟨⟨_, _, rfl, rfl⟩, trivial⟩⟩⟩)
    (case lo => first | rfl | decide +kernel)

