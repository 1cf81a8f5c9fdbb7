import PyProof.Rows.All
import Wide.All
import OpenK.AllK
import Wide.FinOn
import HandS.ForMost
import HandS.IsInst
import HandS.AnyAll
import HandS.EndTab
import HandS.Walk
import HandS.TryOnly
import HandS.TupLe
import HandS.TupAny
import HandS.GenList
import HandS.Comp
import PyProof.TupleOfGen
import HandS.More
import HandS.Zip
import HandS.Wide
import KE.KSortTupG
import HandS.Conv
import HandS.Sort
import HandS.Star
import KE.KDictWalk
import HandS.Iter
import KE.KDictPairs
import HandS.SetKeys
import HandS.TupLen
import KE.GoesMore
import PyProof.Draws
import KE.DatumOrd
import HandS.RevRange
import HandS.NoneIn
import HandS.ExcIs
import HandS.ExcField
import HandS.Style
import HandS.ExcOwn
import HandS.WordsExc
import HandS.List
import KE.KNestM
import PySem.Challenge.RW_wipeways_k48_codes_told
set_option Elab.async false
set_option linter.all false
set_option maxRecDepth 100000
set_option maxHeartbeats 2000000
namespace Kk
open PySem PySem.Spec PyProof.Rows L2

/-- the element of a generator over signs, where the module's names are to be read -/
def EltB (X : Cx) (sc : Scope) (x : Str) (e : Expr) (pb : Nat → Bool) : Prop :=
  ∀ (ge : Env) (B : Around) (F : Value → Shared → Prop) (c : Nat) (t : Tok) (z : Shared) (m : Str → Option Value),
    ge.scope = sc → ge.globals = mainGlobals → (∀ b o, X.base.get? b = some o → z.heap.get? b = some o) →
    z.heap.Ns ge.locals m → m x = some (.str ⟨#[c]⟩ t) →
    wpAny (model X.prog X.w) B (eval e ge) (fun y z' => y = .bool (pb c) ∧ Keeps z z') F z

section
variable {X : Cx} {pins : List (Addr × Obj)} {σ : L2.St} {H : Hp} {s : Shared}

theorem genB {c P : Addr} {e it : Expr} {x : Str} {px gp : Pos} {sc : Scope} {pb : Nat → Bool} {te : TE} {k : Nat} {G : Value → Shared → Prop} {R : Str → Hp → Prop}
    (room : Room k X.A) (tab : GxR.TabB X.base X.mg c P) (code : X.env.code = .ref c) (gs : GxR.GenS X.env sc x) (pit : PE X it te) (pel : EltB X sc x e pb)
    (fold : ∀ v, genFold it X.env v = pure v) (I : Inv X pins σ H s) (want : te σ H fun v H1 => ∃ a : Str, v = .str a ∧ GxR.TabG H1 P ∧ R a H1)
    (fin : ∀ a H1 g s5, R a H1 → GxR.Ready X pins σ H1 P a pb g s5 → G (.ref g) s5) :
    wpAny (model X.prog X.w) X.A (eval (.GeneratorExp e [⟨.Name x px, it, [], 0⟩] sc gp) X.env) G X.xe s := by
  have deep : X.A.depth < recursionLimit := by have q := room.dp; omega
  refine wpAny_GeneratorExp_walksQ room.hd gs.co (closure_ok gs.free) gs.cell gs.dot gs.loc gs.kind deep ?_ fold
  refine thn (pit.run pins s σ H _ I want) fun xv z ⟨v, H1, J, rv, got⟩ => ?_
  obtain ⟨a, rfl, ⟨rows, isT, trip⟩, rest⟩ := got
  obtain ⟨t, rfl⟩ := _root_.id rv
  refine wpAny_pyIter_str fun io St W st0 => ?_
  have atP : z.heap.get? P = some { cls := .none, data := .fields rows } := J.hok P _ isT
  have ltP : P < z.heap.objs.size := Heap.lt_size atP
  have atP2 : (z.heap.push io).get? P = some { cls := .none, data := .fields rows } := Heap.get?_push_of_some _ atP
  have chd : PySem.W.CodeHd (z.heap.push io) c P := tab.code.keeps fun b u q => Heap.get?_push_of_some _ (J.bk b u q)
  have nl : (z.heap.push io).NoLimit := J.nolimit.push io
  have go : ∀ (cv : Value) (h3 : Heap) (tk : Nat) (rows' : Array Value), Heap.ExtBut P (z.heap.push io) h3 → (z.heap.push io).objs.size ≤ h3.objs.size →
      h3.get? P = some { cls := .none, data := .fields rows' } → (∃ more, rows' = rows ++ more) → TriplesOk rows'.toList →
      wpAny (model X.prog X.w) X.A (builtinsFor X.env.globals X.env.builtins) (fun bi s4 =>
        ∃ Ia fp wr n0 Pf S0 pz F, Value.ref z.heap.objs.size = .ref Ia ∧ (∀ B : Around, B.handled = none → Walks X.prog X.w B Ia fp wr n0 Pf S0) ∧
          S0 0 s4.heap ∧ (∀ b ∈ fp, b < s4.heap.objs.size) ∧ s4.heap.NoLimit ∧ cStatics ∉ wr ∧
          (∀ hr : Heap, (∀ b o, s4.heap.get? b = some o → hr.get? b = some o) →
            QuietGen X.prog X.w (genEnv sc (cloFrom X.env.cells sc.names []) s4.heap.objs.size cv bi X.env) x [] e (List.range s4.heap.objs.size) wr Pf pz F hr) ∧
          (∀ g h5 tk gst, gst.bare = true → s4.heap.objs.size < g → h5.objs.size = g + 1 → (∀ b o, s4.heap.get? b = some o → h5.get? b = some o) →
            WalksS X.prog X.w X.A.in4 g (g :: s4.heap.objs.size :: List.range s4.heap.objs.size) (s4.heap.objs.size :: wr) (GenOnlyQ s4.gens.size) (passing pz n0 0).length
              (fun j y => ∃ i, (passing pz n0 0)[j]? = some i ∧ F i y) (GenAt X.prog X.w X.A.in4 g s4.gens.size s4.heap.objs.size (List.range s4.heap.objs.size) wr pz n0 F) →
            GenAt X.prog X.w X.A.in4 g s4.gens.size s4.heap.objs.size (List.range s4.heap.objs.size) wr pz n0 F 0 { s4 with gens := s4.gens.push gst, toks := tk, heap := h5 } →
            G (.ref g) { s4 with gens := s4.gens.push gst, toks := tk, heap := h5 })) X.xe { z with heap := h3, toks := tk } := by
    intro cv h3 tk rows' ext le3 at3 grown trip3
    obtain ⟨bm, ob, b1, b2, b3, b4, b5, b6, b7, b8⟩ := tab.bm
    have cP : cStatics ≠ P := fun q => by
      obtain ⟨_, ns, _⟩ := J.nolimit
      obtain ⟨o9, es, ep, g9, d9, _⟩ := ns
      rw [q, atP] at g9; cases g9; cases d9
    have cLt : cStatics < z.heap.objs.size := let ⟨_, ns, _⟩ := J.nolimit; ns.lt
    have szI : (z.heap.push io).objs.size = z.heap.objs.size + 1 := Heap.size_push ..
    have kp3 : ∀ b u, b ≠ P → z.heap.get? b = some u → h3.get? b = some u := fun b u nb q => ext b u nb (Heap.get?_push_of_some _ q)
    have kpB : ∀ b u, X.base.get? b = some u → h3.get? b = some u ∧ b < z.heap.objs.size := fun b u q => by
      obtain ⟨q1, q2⟩ := J.bs b u q
      exact ⟨kp3 b u (fun zz => by rw [zz, isT] at q2; cases q2) q1, Heap.lt_size q1⟩
    refine wpAny_builtinsFor (m := X.mg) (by rw [J.ok.glob]; exact ((J.mod.glob.keeps J.bk).push io).extBut ext tab.gP) b1 b2 (kp3 _ _ b4 (J.bk _ _ b5)) b6 b7 b8 ?_
    refine ⟨z.heap.objs.size, [z.heap.objs.size], [z.heap.objs.size], a.cps.size, SignAt a, St, (fun _ => true), (fun i y => ∃ cc, a.cps[i]? = some cc ∧ y = .bool (pb cc)), rfl, W,
      ?_, ?_, nl.extBut ext cP, ?_, ?_, ?_⟩
    · refine (W X.A room.hd).frame _ _ _ st0 fun b hb u q => ext b u (fun zz => ?_) q
      rcases List.mem_cons.mp hb with z2 | z2
      · exact Nat.ne_of_lt ltP (zz.symm.trans z2)
      · cases z2
    · intro b hb
      rcases List.mem_cons.mp hb with q | q
      · rw [q]; show z.heap.objs.size < h3.objs.size; omega
      · cases q
    · intro q
      rcases List.mem_cons.mp q with q | q
      · exact Nat.ne_of_lt cLt q
      · cases q
    · intro hr hhr
      refine ⟨fun B E' i v s2 m2 hB hPv hn hm hk => ?_, fun B E' i v s2 m2 hB hPv hp hn hm hk => ?_⟩
      · simp only [List.forIn_nil]
        exact wpAny_pure ⟨rfl, GxR.keeps_refl _⟩
      · obtain ⟨cc, u, hcc, rfl⟩ := hPv
        refine wpAny_mono (pel _ B E' cc u s2 m2 rfl J.ok.glob (fun b o q => ?_) hn hm) (fun y s3 r => ⟨⟨cc, hcc, r.1⟩, r.2⟩) fun _ _ q => q
        obtain ⟨q1, q2⟩ := kpB b o q
        exact hk b (List.mem_range.mpr (Heap.lt_size q1)) (fun zz => by
          rcases List.mem_cons.mp zz with zz | zz
          · exact Nat.ne_of_lt q2 zz
          · cases zz) o (hhr b o q1)
    · intro g h5 tk5 gst bare gt sz5 kp5 W5 at0
      simp only [GxR.passing_true, List.length_range] at W5
      refine fin a H1 g _ rest ⟨_, _, _, _, _, W5.in4_1, at0, ?_, fun s9 mv => ?_⟩
      · intro j y sj Qj Ej hy hQj
        obtain ⟨i, hij, cc, hcc, rfl⟩ := hy
        obtain ⟨hj, ej⟩ := List.getElem?_eq_some_iff.mp hij
        rw [List.getElem_range] at ej
        subst ej
        have q9 : a.cps.toList[j]? = some cc := by rw [Array.getElem?_toList]; exact hcc
        have hQ2 : Qj (GxR.trF pb a.cps.toList j) sj := hQj
        rw [GxR.trF_some q9] at hQ2
        exact wpAny_truthy_bool hQ2
      · obtain ⟨more, em⟩ := grown
        have nw : ∀ b u, z.heap.get? b = some u → b ∉ h3.objs.size :: [z.heap.objs.size] := fun b u q hb => by
          have lb := Heap.lt_size q
          rcases List.mem_cons.mp hb with q | q
          · rw [q] at lb
            have q9 : (h3.objs.size : Nat) < z.heap.objs.size := lb
            omega
          · rcases List.mem_cons.mp q with q | q
            · rw [q] at lb; exact Nat.lt_irrefl _ lb
            · cases q
        have J2 := GxR.inv_tab (more := more) (h' := s9.heap) (g' := s9.gens) (d' := s9.drawn) (t' := s9.toks) J isT (fun b u nb q => mv.heap b u (nw b u q) (kp5 b u (kp3 b u nb q)))
          (by rw [← em]; exact mv.heap P _ (nw P _ atP) (kp5 P _ at3)) (AllBare.movedS (J.bare.push bare) mv)
        rw [GxR.sh_eta z s9 mv.os] at J2
        exact ⟨upd H1 P (.tbl (rows ++ more)), ⟨⟨rows ++ more, upd_same, by rw [← em]; exact trip3⟩, fun b nb => upd_ne nb⟩, J2⟩
  refine ⟨nl, ?_⟩
  cases am : codeAmong gp rows.toList with
  | none =>
    refine wpAny_genexprCodeX code (chd.code atP2 trip) (chd.tab atP2) am fun c' h' tk hx hge hlt hco _ htab _ => ?_
    obtain ⟨o1, vs, f1, tf, fl, tg, inF, tx, tt, op, _, _, _, _, _, _, _, _, _, htr, _⟩ := hco
    exact go _ h' tk _ hx (Nat.le_trans hge (Nat.le_of_lt hlt)) htab.2 ⟨_, rfl⟩ htr
  | some cv =>
    refine wpAny_genexprCode_hit code (chd.code atP2 trip) am ?_
    exact go cv (z.heap.push io) z.toks rows (Heap.ExtBut.refl _ _) (Nat.le_refl _) atP2 ⟨#[], by simp⟩ trip

/-- all(e for x in a text) -/
theorem pe_allB {c P : Addr} {e it : Expr} {x : Str} {px p pos gp : Pos} {sc : Scope} {pb : Nat → Bool} {te : TE} {k : Nat}
    (room : Room k X.A) (hg : Gl X "all") (hm : X.mg "all" = none) (tab : GxR.TabB X.base X.mg c P) (code : X.env.code = .ref c) (gs : GxR.GenS X.env sc x) (pit : PE X it te) (pel : EltB X sc x e pb)
    (fold : ∀ v, genFold it X.env v = pure v)
    (he : starEach [.GeneratorExp e [⟨.Name x px, it, [], 0⟩] sc gp] X.env = (false, eval (.GeneratorExp e [⟨.Name x px, it, [], 0⟩] sc gp) X.env) :: starEach [] X.env := by rfl) :
    PE X (.Call (.Name "all" p) [.GeneratorExp e [⟨.Name x px, it, [], 0⟩] sc gp] [] pos) (GxR.tAllS P pb te) := by
  refine ⟨fun pins s σ H Q I want => ?_⟩
  have hb : bootBuiltins "all" = some (.builtin "all") := by decide +kernel
  refine wpAny_Call_Name_kw (ld_blt I hg hm hb ?_)
  refine PyProof.Rows.callWith_builtin1 ?_ he (by rfl)
  rw [he]
  show wpAny _ _ (spliced ((false, eval (.GeneratorExp e [⟨.Name x px, it, [], 0⟩] sc gp) X.env) :: backTo pos (starEach [] X.env))) _ _ s
  refine Calls.spliced_cons (genB (R := fun a H1 => ∀ H2, GxR.Tabbed P H1 H2 → Q (.bl (a.cps.toList.all pb)) H2) room tab code gs pit pel fold I want fun a H1 g s5 hR rd => ?_)
  obtain ⟨fp, wr, G, F, St, W, hst, htr, hI⟩ := rd
  refine Calls.spliced_nil ?_
  refine call_all_walkS (W.self 0 _ _ _ hst ⟨g, fp, wr, G, _, F, St, _, rfl, W, hst, htr, fun s' mv => ?_⟩)
  obtain ⟨H2, hT, J⟩ := hI s' mv
  refine ⟨.bl _, H2, J, rfl, ?_⟩
  rw [GxR.all_signs a pb]
  exact hR H2 hT

/-- x in NAME: NAME a text of the module -/
theorem elt_in {sc : Scope} {x y z : Str} {tz : Tok} {p1 p2 p3 : Pos} (gls : X.base.Ns mainGlobals X.mg) (hk : sc.kind = .function) (hl : sc.names.lookup x = some .local)
    (hy : sc.names.lookup y = some .globalImplicit) (hm : X.mg y = some (.str z tz)) (hd : (x == ("__debug__" : Str)) = false := by decide) (hd2 : (y == ("__debug__" : Str)) = false := by decide) :
    EltB X sc x (.Compare (.Name x p1) [.In] [.Name y p2] p3) (fun c => decide (c ∈ z.cps.toList)) := by
  intro ge B F c t q m hs hgl kb hn hx
  refine wpAny_Compare1 ?_
  refine wpAny_Name (wpAny_loadName_local (by rw [hs]; exact hk) (show ge.scope.names.lookup x = some .local by rw [hs]; exact hl) hn hx ?_) hd
  refine Calls.Name_function_global (by rw [hs]; exact hk) ?_ (Calls.loadGlobal_global (by rw [hgl]; exact gls.keeps kb) hm ?_) hd2
  · show ge.scope.names.lookup y = some .globalImplicit
    rw [hs]; exact hy
  · refine PyProof.Rows.in_str ⟨?_, GxR.keeps_refl _⟩
    rw [PySem.StrLaws.found_one z c]
end
end Kk

namespace Kk
open PySem PySem.Spec PyProof.Rows L2

/-- no table of a code object -/
def NoTb (o : HO) : Prop := ∀ ps, o ≠ .tbl ps
theorem nt_lst {xs : List V} : NoTb (.lst xs) := fun _ h => by cases h
theorem nt_tup {xs : List V} : NoTb (.tup xs) := fun _ h => by cases h
theorem nt_dK {xs : List (Key × V)} : NoTb (.dK xs) := fun _ h => by cases h
theorem nt_frz {o : Obj} {u : HO} : NoTb (.frz o u) := fun _ h => by cases h
/-- what never changes -/
def Fx : HO → Bool
  | .tup _ => true
  | .frz _ _ => true
  | _ => false
/-- what stands stays, but for xs and what the tables grow by; nothing vanishes; tuples stay -/
structure Ex (xs : List Addr) (H H' : Hp) : Prop where
  a : ∀ b o, b ∉ xs → H b = some o → NoTb o → H' b = some o
  c : ∀ b o, H b = some o → Fx o = true → H' b = some o
  t : ∀ P, GxR.TabG H P → GxR.TabG H' P
  f : ∀ b, H' b = none → H b = none
theorem Ex.refl {xs : List Addr} {H : Hp} : Ex xs H H := ⟨fun _ _ _ h _ => h, fun _ _ h _ => h, fun _ h => h, fun _ h => h⟩
theorem Ex.trans {xs : List Addr} {H H1 H2 : Hp} (a : Ex xs H H1) (b : Ex xs H1 H2) : Ex xs H H2 :=
  ⟨fun c o n h t => b.a c o n (a.a c o n h t) t, fun c o h t => b.c c o (a.c c o h t) t, fun P h => b.t P (a.t P h), fun c h => a.f c (b.f c h)⟩
theorem Ex.mono {xs ys : List Addr} {H H' : Hp} (a : Ex xs H H') (s : ∀ b, b ∈ xs → b ∈ ys) : Ex ys H H' := ⟨fun c o n h t => a.a c o (fun q => n (s c q)) h t, a.c, a.t, a.f⟩
theorem Ex.nil {ys : List Addr} {H H' : Hp} (a : Ex [] H H') : Ex ys H H' := a.mono fun _ q => by cases q
theorem tab_upd {H : Hp} {P p : Addr} {o : HO} (t : GxR.TabG H P) (n : ∀ ps, H p ≠ some (.tbl ps)) : GxR.TabG (upd H p o) P := by
  obtain ⟨ps, h, q⟩ := t
  refine ⟨ps, ?_, q⟩
  rw [upd_ne fun z => n ps (by rw [← z]; exact h)]
  exact h
theorem upd_free {H : Hp} {p b : Addr} {o : HO} (h : upd H p o b = none) : H b = none := by
  by_cases z : b = p
  · rw [z, upd_same] at h; cases h
  · rw [upd_ne z] at h; exact h
theorem Ex.new {xs : List Addr} {H : Hp} {p : Addr} {o : HO} (n : H p = none) : Ex xs H (upd H p o) :=
  ⟨fun b u _ h _ => by rw [upd_ne (ne_of_none h n)]; exact h, fun b u h _ => by rw [upd_ne (ne_of_none h n)]; exact h, fun P h => tab_upd h fun ps z => (by rw [n] at z; cases z), fun b h => upd_free h⟩
theorem Ex.put {xs : List Addr} {H : Hp} {p : Addr} {u o : HO} (h0 : H p = some u) (nt : NoTb u) (m : p ∈ xs) (fx : Fx u = false := by rfl) : Ex xs H (upd H p o) :=
  ⟨fun b w nb h _ => by rw [upd_ne fun z => nb (by rw [z]; exact m)]; exact h, fun b w h k => (by
    have nb : b ≠ p := fun z => by rw [z, h0] at h; cases h; rw [fx] at k; cases k
    rw [upd_ne nb]; exact h), fun P h => tab_upd h fun ps z => (by rw [h0] at z; cases z; exact nt _ rfl), fun b h => upd_free h⟩
/-- an object of one's own, made on the way, may have changed -/
theorem Ex.own {xs : List Addr} {H H1 H' : Hp} {p : Addr} (n : H p = none) (e : Ex xs H H1) (a : Ex (p :: xs) H1 H') : Ex xs H H' :=
  ⟨fun b u nb h t => a.a b u (fun q => by
      rcases List.mem_cons.mp q with z | z
      · rw [z, n] at h; cases h
      · exact nb z) (e.a b u nb h t) t, fun b u h k => a.c b u (e.c b u h k) k, fun P h => a.t P (e.t P h), fun b h => e.f b (a.f b h)⟩
theorem Ex.lst {xs : List Addr} {H H' : Hp} {p : Addr} {ys : List V} (a : Ex xs H H') (h : H p = some (.lst ys)) (n : p ∉ xs := by simp) : H' p = some (.lst ys) := a.a p _ n h nt_lst
theorem Ex.dK {xs : List Addr} {H H' : Hp} {p : Addr} {ys : List (Key × V)} (a : Ex xs H H') (h : H p = some (.dK ys)) (n : p ∉ xs := by simp) : H' p = some (.dK ys) := a.a p _ n h nt_dK
theorem Ex.tup {xs : List Addr} {H H' : Hp} {p : Addr} {ys : List V} (a : Ex xs H H') (h : H p = some (.tup ys)) : H' p = some (.tup ys) := a.c p _ h rfl
theorem Ex.seqL {K : PySem.W.Frag} {xs : List Addr} {H H' : Hp} {p : Addr} {ys : List V} (a : Ex xs H H') (h : SqL K H p ys) (n : p ∉ xs := by simp) : SqL K H' p ys := by
  rcases h with (h | ⟨o, h⟩) | h
  · exact .inl (.inl (a.a p _ n h nt_lst))
  · exact .inl (.inr ⟨o, a.c p _ h rfl⟩)
  · exact .inr h
theorem Ex.seqT {K : PySem.W.Frag} {xs : List Addr} {H H' : Hp} {p : Addr} {ys : List V} (a : Ex xs H H') (h : SqT K H p ys) : SqT K H' p ys := by
  rcases h with (h | ⟨o, h⟩) | h
  · exact .inl (.inl (a.c p _ h rfl))
  · exact .inl (.inr ⟨o, a.c p _ h rfl⟩)
  · exact .inr h
theorem Ex.tabbed {xs : List Addr} {H H' : Hp} {P : Addr} (t : GxR.TabG H P) (k : GxR.Tabbed P H H') : Ex xs H H' := by
  obtain ⟨ps, e, _⟩ := t
  have st : ∀ b o, H b = some o → NoTb o → H' b = some o := fun b o h nt => by
    rw [k.2 b fun z => by rw [z, e] at h; cases h; exact nt _ rfl]; exact h
  refine ⟨fun b o _ h nt => st b o h nt, fun b o h fx => st b o h fun ps z => (by rw [z] at fx; cases fx), fun Q q => ?_, fun b h => ?_⟩
  · by_cases z : Q = P
    · rw [z]; exact k.1
    · obtain ⟨qs, h, r⟩ := q
      exact ⟨qs, by rw [k.2 Q z]; exact h, r⟩
  · by_cases z : b = P
    · obtain ⟨⟨qs, h', _⟩, _⟩ := k
      rw [z, h'] at h; cases h
    · rw [k.2 b z] at h; exact h

/-! data: texts, ints, truths, None, and tuples of these -/
mutual
inductive Tp (K : PySem.W.Frag) (H : Hp) : V → PyData → Prop
  | non : Tp K H .non .none
  | bl (b : Bool) : Tp K H (.bl b) (.bool b)
  | int (i : Int) : Tp K H (.int i) (.int i)
  | str (x : Str) : Tp K H (.str x) (.str x)
  | tup {a : Addr} {xs : List V} {ds : List PyData} : SqT K H a xs → TpAll K H xs ds → Tp K H (.ref a) (.tuple ds)
inductive TpAll (K : PySem.W.Frag) (H : Hp) : List V → List PyData → Prop
  | nil : TpAll K H [] []
  | cons {v : V} {vs : List V} {d : PyData} {ds : List PyData} : Tp K H v d → TpAll K H vs ds → TpAll K H (v :: vs) (d :: ds)
end
section
variable {K : PySem.W.Frag} {H H' : Hp} {xs : List Addr}
mutual
theorem Tp.ex (e : Ex xs H H') : ∀ {v : V} {d : PyData}, Tp K H v d → Tp K H' v d
  | _, _, .non => .non
  | _, _, .bl b => .bl b
  | _, _, .int i => .int i
  | _, _, .str x => .str x
  | _, _, .tup h r => .tup (e.seqT h) (TpAll.ex e r)
theorem TpAll.ex (e : Ex xs H H') : ∀ {vs : List V} {ds : List PyData}, TpAll K H vs ds → TpAll K H' vs ds
  | _, _, .nil => .nil
  | _, _, .cons h r => .cons (Tp.ex e h) (TpAll.ex e r)
end
mutual
theorem Tp.dp : ∀ {v : V} {d : PyData}, Tp K H v d → Dp K H v d
  | _, _, .non => .non
  | _, _, .bl b => .bl b
  | _, _, .int i => .int i
  | _, _, .str x => .str x
  | _, _, .tup h r => .tup h (TpAll.dp r)
theorem TpAll.dp : ∀ {vs : List V} {ds : List PyData}, TpAll K H vs ds → DpAll K H vs ds
  | _, _, .nil => .nil
  | _, _, .cons h r => .cons (Tp.dp h) (TpAll.dp r)
end
theorem TpAll.len {vs : List V} {ds : List PyData} (h : TpAll K H vs ds) : vs.length = ds.length := by
  induction vs generalizing ds with
  | nil => cases h; rfl
  | cons v vs ih => cases h with | cons a b => rw [List.length_cons, List.length_cons, ih b]
theorem TpAll.get {vs : List V} {ds : List PyData} (h : TpAll K H vs ds) : ∀ {i : Nat} {v : V}, vs[i]? = some v → ∃ d, ds[i]? = some d ∧ Tp K H v d := by
  induction vs generalizing ds with
  | nil => intro i v e; simp at e
  | cons v0 vs ih =>
    cases h with
    | cons a b =>
      intro i v e
      cases i with
      | zero => cases e; exact ⟨_, rfl, a⟩
      | succ i => exact ih b (i := i) (by simpa using e)
theorem TpAll.app {vs us : List V} {ds es : List PyData} (h : TpAll K H vs ds) (g : TpAll K H us es) : TpAll K H (vs ++ us) (ds ++ es) := by
  induction vs generalizing ds with
  | nil => cases h; exact g
  | cons v vs ih => cases h with | cons a b => exact .cons a (ih b)
theorem TpAll.strs : ∀ ws : List Str, TpAll K H (ws.map V.str) (ws.map PyData.str)
  | [] => .nil
  | w :: ws => .cons (.str w) (TpAll.strs ws)
theorem Tp.new {p : Addr} {ts : List V} {ds : List PyData} (n : H p = none) (h : TpAll K H ts ds) : Tp K (upd H p (.tup ts)) (.ref p) (.tuple ds) :=
  .tup (.of upd_same) (h.ex (.new (xs := []) n))
end

/-- a def whose code object is known: its generators' codes go into its own table -/
theorem okC {P : Program} {w : World} {K : PySem.W.Frag} {mg : Str → Option Value} {base : Heap} {x qual : Str} {st : Stmt} {f c : Addr} {N ps : List Str} {k : Nat} {sp : Sp}
    {oc : Value} {od an : Option Addr} {osl : Array (Option Value)} {kV doc pm ct : Value}
    (lk : K.lookup f = some ⟨oc, od, .func (PySem.W.fnOf x qual (defArgs st) (defBody st) (defScope st) .none kV doc pm an (.ref c) ct), osl⟩) (hc : PySem.W.codeIn K (.ref c) qual = true)
    (S : FnScope N ps (defScope st)) (len : ∀ vs H Q E, sp vs H Q E → vs.length = ps.length)
    (body : ∀ (A : Around) (outer : List Env) (s : Shared) (H : Hp) (vs : List V) (Q : VK) (E : XK), Room k (A.deeper (envOfC qual (defScope st) s.heap.objs.size f (.ref c))) → sp vs H Q E →
      ∃ t, PSs (cxOf CX0 P w K mg base N qual (defScope st) f (.ref c) A outer s H E).nox (defBody st) t ∧ t { nx := fun _ H' => Q .non H', rt := Q } (start N vs) H) :
    FnOk P w K mg base CX0 (k + 1) f (PySem.W.fnOf x qual (defArgs st) (defBody st) (defScope st) .none kV doc pm an (.ref c) ct) ps sp := by
  refine fn_of lk hc S len fun A outer s H vs Q E hr hsp => ?_
  obtain ⟨t, h, q⟩ := body A outer s H vs Q E hr hsp
  exact ⟨t, h.nox, q⟩
/-- a def that may be called: its promise, where it stands, how its arguments come -/
structure Cl (P : Program) (w : World) (K : PySem.W.Frag) (mg : Str → Option Value) (base : Heap) (k : Nat) (x : Str) (ps : List Str) (sp : Sp) (f : Addr) (fd : FuncData) : Prop where
  g : FnOk P w K mg base CX0 k f fd ps sp
  k : PySem.W.keepIn K (.ref f) = true
  b : Binds K fd ps []
  m : mg x = some (.ref f)
/-- where a def stands -/
structure At (K : PySem.W.Frag) (mg : Str → Option Value) (x : Str) (st : Stmt) (ps : List Str) (f : Addr) (fd : FuncData) : Prop where
  F : Fun K x x st f fd
  b : Binds K fd ps []
  m : mg x = some (.ref f)
theorem At.cl {P : Program} {w : World} {K : PySem.W.Frag} {mg : Str → Option Value} {base : Heap} {x : Str} {st : Stmt} {ps : List Str} {f : Addr} {fd : FuncData} {j k : Nat} {sp : Sp} (A : At K mg x st ps f fd) (g : FnOk P w K mg base CX0 j f fd ps sp) (h : j ≤ k) :
    Cl P w K mg base k x ps sp f fd := ⟨g.mono h, A.F.kp, A.b, A.m⟩
/-- nothing is promised of a call that never comes -/
theorem ok_never {P : Program} {w : World} {K : PySem.W.Frag} {mg : Str → Option Value} {base : Heap} {k : Nat} {ps : List Str} {f : Addr} {fd : FuncData} : FnOk P w K mg base CX0 k f fd ps (fun _ _ _ _ => False) :=
  ⟨fun _ _ _ _ h => h.elim, fun _ _ _ _ _ _ _ _ _ _ _ _ _ h => h.elim⟩
def rLenK (K : PySem.W.Frag) : List V → Hp → VK → Prop := fun xs H Q => ∃ p ys, xs = [V.ref p] ∧ (SqL K H p ys ∨ SqT K H p ys) ∧ Q (V.int ys.length) H
/-- within a comprehension: the written part is the def's own -/
theorem call_lenK {X : Cx} {K : PySem.W.Frag} (h : X.K = K) : CallR X (.builtin "len") (rLenK K) := by subst h; exact call_len_seq
theorem ix_listK {X : Cx} {K : PySem.W.Frag} (h : X.K = K) : IxR X (rIxL K) := by subst h; exact ix_list
theorem ix_tupK {X : Cx} {K : PySem.W.Frag} (h : X.K = K) : IxR X (rIxT K) := by subst h; exact ix_tup
theorem op_mul_str {X : Cx} : OpR X (binaryOp .Mult) (fun x y H Q => ∃ z n, x = .str z ∧ y = .int n ∧ MulOk z n ∧ Q (.str (Txt.mul z n)) H) := by
  intro pins s σ H x y v u Q I rx ry h
  obtain ⟨z, n, rfl, rfl, ok, q⟩ := h
  obtain ⟨t, rfl⟩ := rx
  obtain ⟨t', rfl⟩ := ry
  exact SB.mul ok fun t2 k => ⟨.str _, H, I.tok k, ⟨_, rfl⟩, q⟩
/-- a list held against the empty one -/
theorem op_eq_nil {X : Cx} {k : Nat} (hr : Room k X.A) : OpR X (compareOp .Eq) (fun x y H Q => ∃ a b xs, x = .ref a ∧ y = .ref b ∧ SqL X.K H a xs ∧ SqL X.K H b [] ∧ Q (.bl xs.isEmpty) H) := by
  intro pins s σ H x y v u Q I rx ry h
  obtain ⟨a, b, xs, rfl, rfl, ha, hb, q⟩ := h
  cases (show v = Value.ref a from rx)
  cases (show u = Value.ref b from ry)
  obtain ⟨its, r, pl, hz⟩ := I.list ha
  obtain ⟨its2, r2, pl2, hz2⟩ := I.list hb
  have e2 : its2 = [] := List.length_eq_zero_iff.mp r2.length.symm
  subst e2
  cases xs with
  | nil =>
    have e1 : its = [] := List.length_eq_zero_iff.mp r.length.symm
    subst e1
    exact SeqAt.eq_listAt (e := fun _ => true) pl.isList pl2.isList rfl hr.units0 (fun j h1 _ => absurd h1 (Nat.not_lt_zero j)) ⟨.bl true, H, I, rfl, q⟩
  | cons z zs =>
    have e1 : its.length = zs.length + 1 := r.length.symm
    refine SeqAt.eq_list_lengthsAt pl.isList pl2.isList ?_ hr.units0 ⟨.bl false, H, I, rfl, q⟩
    simp [e1]
end Kk

set_option maxHeartbeats 1000000
namespace Kk
open PySem PySem.Spec PyProof.Rows L2 GenW
/-! a generator expression whose element may do anything: its own frame's context -/
def gxC (X : Cx) (A : Around) (ge : Env) (N : List Str) (sc : Shared) (H : Hp) (ex : List Addr) (pn : List (Addr × Obj)) : Cx where
  prog := X.prog
  w := X.w
  K := X.K
  mg := X.mg
  base := X.base
  A := A.deeper ge
  N := N
  s_0 := sc
  H_0 := H
  env := ge
  outer := X.stack
  stack := ge :: X.stack
  ex := ex
  fn := fun _ => false
  calm := true
  pn := pn
  xe := fun _ _ => False
/-- what holds at any halt of it -/
structure Out (P : Program) (w : World) (outer : List Env) (ex : List Addr) (H H' : Hp) (sc s1 : Shared) : Prop where
  os : s1.os = sc.os
  bare : AllBare s1.gens
  un : Un (frs outer) ex H H' sc.heap s1.heap
  hok : HOk P w H' s1.heap
theorem Out.of {Y : Cx} {pins : List (Addr × Obj)} {σ : L2.St} {H : Hp} {s : Shared} (I : Inv Y pins σ H s) : Out Y.prog Y.w Y.outer Y.ex Y.H_0 H Y.s_0 s := ⟨I.os, I.bare, I.base, I.hok⟩
/-- while it sleeps: its consumer's own objects may change -/
structure Slp (cs : List Addr) (cp' : List (Addr × Obj)) (s s' : Shared) : Prop where
  os : s'.os = s.os
  bare : AllBare s'.gens
  keep : ∀ b o, b ∉ cs → s.heap.get? b = some o → s'.heap.get? b = some o
  own : ∀ p ∈ cp', s'.heap.get? p.1 = some p.2
/-- a consumer: its own objects, and what they hold by what came so far -/
structure Cons where
  cs : List Addr
  cr : List V → List (Addr × Obj) → Prop
  ok : ∀ ys cp, cr ys cp → cp.map Prod.fst = cs ∧ ∀ p ∈ cp, ∀ v, p.2.data ≠ .cell v
theorem woken {Y : Cx} {cs : List Addr} {cp cp' ip : List (Addr × Obj)} {σ : L2.St} {H : Hp} {s s' : Shared} (hm : cp.map Prod.fst = cs) (hm' : cp'.map Prod.fst = cs) (hd : ∀ p ∈ cp', ∀ v, p.2.data ≠ .cell v)
    (hpn : ∀ p ∈ Y.pn, p.1 ∉ cs) (hip : ∀ p ∈ ip, p.1 ∉ cs) (hA : ∀ b ∈ cs, Y.s_0.heap.objs.size ≤ b ∧ ∀ x c, Y.env.cells.lookup x = some c → c ≠ b) (I : Inv Y (cp ++ ip) σ H s) (z : Slp cs cp' s s') : Inv Y (cp' ++ ip) σ H s' := by
  have at1 : ∀ b ∈ cs, H b = none ∧ b ≠ Y.env.locals ∧ b ∉ Y.fs := fun b hb => by
    rw [← hm] at hb
    obtain ⟨p, hp, rfl⟩ := List.mem_map.mp hb
    obtain ⟨_, h2, h3, h4, _⟩ := I.pin p (List.mem_append_right _ (List.mem_append_left _ hp))
    exact ⟨h2, h3, h4⟩
  have I0 : Inv Y ip σ H s := I.pins_of fun p hp => I.pin p (List.mem_append_right _ (List.mem_append_right _ hp))
  have nt : ∀ b u, H b = some u → b ∉ cs := fun b u q hb => by rw [(at1 b hb).1] at q; cases q
  obtain ⟨z1, z2, z3, z4⟩ := z
  obtain ⟨hh, g, d, t, o⟩ := s'
  have ho : o = s.os := z1
  subst ho
  have J : Inv Y ip σ H { s with heap := hh, gens := g, drawn := d, toks := t } := by
    refine I0.step (g' := g) (t' := t) (d' := d) (ch := cs) (fun b hb => ?_)
      (fun b ob _ _ hc q _ => z3 b ob hc q) (fun b ob _ _ hc q _ => ⟨ob.slots, z3 b ob hc q⟩) (fun _ _ _ _ n => n) (fun b ob hc q => ⟨ob, z3 b ob hc q⟩)
      (fun _ _ q => q) (fun _ _ _ q => q) (fun b ps q => ⟨#[], by rw [q]; simp⟩) (fun m hm => ?_) (fun b u q => ?_) z2
    · refine ⟨.inr (hA b hb).1, (at1 b hb).2.1, (hA b hb).2, fun p hp e => ?_⟩
      rcases List.mem_append.mp hp with hp | hp
      · exact hpn p hp (e ▸ hb)
      · exact hip p hp (e ▸ hb)
    · obtain ⟨ob, es, ep, ho, r⟩ := hm
      exact ⟨ob, es, ep, z3 _ ob (fun hb => (at1 _ hb).2.1 rfl) ho, r⟩
    · refine (I0.hok b u q).stay (fun c v hc y => z3 c v ?_ y) (fun _ y => y) fun _ _ y => y
      rcases hc with y | y
      · rw [y]; exact nt b u q
      · exact nt c _ y
  refine J.pins_of fun p hp => ?_
  rcases List.mem_append.mp hp with hp | hp
  · have hb : p.1 ∈ cs := by rw [← hm']; exact List.mem_map.mpr ⟨p, hp, rfl⟩
    exact ⟨z4 p hp, (at1 _ hb).1, (at1 _ hb).2.1, (at1 _ hb).2.2, hd p hp⟩
  · exact J.pin p (List.mem_append_right _ hp)

/-- the end of a run -/
def LEnd (P : Program) (w : World) (outer : List Env) (ex : List Addr) (H : Hp) (sc : Shared) (c : Cons) (Q : List V → Hp → Prop) : Nat → Shared → Shared → Prop := fun n s₀ s1 =>
  ∃ H' ys cp, Out P w outer ex H H' sc s1 ∧ c.cr ys cp ∧ (∀ p ∈ cp, s1.heap.get? p.1 = some p.2 ∧ H' p.1 = none) ∧ ys.length ≤ sizeLine ∧ Q ys H'
/-- an item is handed out; Yd: what is wanted of it, and whether the run goes on -/
def LItem (P : Program) (w : World) (outer : List Env) (ex : List Addr) (H : Hp) (sc : Shared) (c : Cons) (Yd : List V → V → Hp → Prop → Prop) (a : Addr) (g : Nat) : Protocol := fun n s₀ v s1 kap =>
  ∃ ys x cp H' nx, RelV x v ∧ Out P w outer ex H H' sc s1 ∧ s1.heap.NoLimit ∧ s1.heap.IsGen a g ∧ c.cr ys cp ∧ (∀ p ∈ cp, s1.heap.get? p.1 = some p.2 ∧ H' p.1 = none) ∧ n + 1 + ys.length = sizeLine ∧ Yd ys x H' nx ∧
    (nx → ∀ s' cp', c.cr (ys ++ [x]) cp' → Slp c.cs cp' s1 s' → kap (.send .none) s')
/-- the turns of a generator expression, read -/
def GxTurn (J : It) (g : TG) (tt : TT) (te : TE) (σ' : L2.St) (Q : List V → Hp → Prop) (Yd : List V → V → Hp → Prop → Prop) (W : Nat → Nat → List V → Hp → Prop) : Prop :=
  ∀ i m ys H, W i m ys H → (J.stop i H ∧ Q ys H) ∨ (J.go i H ∧ ∃ Nx : List V → Hp → Prop, (∀ ys' H', Nx ys' H' → ∃ m', m' < m ∧ W (i + 1) m' ys' H') ∧ ∀ x H', J.yld i H x H' → g x σ' H' fun σ2 H2 => (∀ (j : Nat) (v : V), σ'[j]? = some (some v) → σ2[j]? = some (some v)) ∧ tt σ2 H2 fun b H3 =>
    if b = true then te σ2 H3 fun y H4 => ys.length < sizeLine ∧ Yd ys y H4 (Nx (ys ++ [y]) H4) else Nx ys H3)
/-- over a walk: Pv by the turn, what came so far and the heap -/
theorem gx_it {J : It} {n : Nat} {G : Hp → Prop} {Yw : Nat → Hp → V → Hp → Prop} (w : Walk J n G Yw) {g : TG} {tt : TT} {te : TE} {σ' : L2.St} {Q : List V → Hp → Prop} {Yd : List V → V → Hp → Prop → Prop} {H1 : Hp}
    (Pv : Nat → List V → Hp → Prop) (h0 : Pv 0 [] H1) (hG : ∀ i ys H, i ≤ n → Pv i ys H → G H)
    (hs : ∀ i x ys H H', i < n → Pv i ys H → Yw i H x H' → g x σ' H' fun σ2 H2 => (∀ (j : Nat) (v : V), σ'[j]? = some (some v) → σ2[j]? = some (some v)) ∧ tt σ2 H2 fun b H3 =>
      if b = true then te σ2 H3 fun y H4 => ys.length < sizeLine ∧ Yd ys y H4 (Pv (i + 1) (ys ++ [y]) H4) else Pv (i + 1) ys H3) (hd : ∀ ys H, Pv n ys H → Q ys H) :
    ∃ W : Nat → Nat → List V → Hp → Prop, (∃ m, W 0 m [] H1) ∧ GxTurn J g tt te σ' Q Yd W := by
  refine ⟨fun i m ys H => m = n - i ∧ i ≤ n ∧ Pv i ys H, ⟨n, by simp, Nat.zero_le _, h0⟩, ?_⟩
  rintro i m ys H ⟨rfl, hi, p⟩
  have q := hG i ys H hi p
  by_cases hlt : i < n
  · exact .inr ⟨w.goes i H hlt q, Pv (i + 1), fun ys' H' p' => ⟨n - (i + 1), by omega, rfl, hlt, p'⟩, fun x H' y => hs i x ys H H' hlt p (w.yields i H x H' hlt q y)⟩
  · have e : i = n := by omega
    subst e
    exact .inl ⟨w.stops H q, hd ys H p⟩

section
variable {Y : Cx} {A : Around} {tg elt iter : Expr} {ifs : List Expr} {scope : Scope} {pos : Pos} {it a : Addr} {gi : Nat} {fp : List Addr} {tn : Nat → Heap → Prop} {J : It} {g : TG} {tt : TT} {te : TE} {σ' : L2.St}
  {Q : List V → Hp → Prop} {Yd : List V → V → Hp → Prop → Prop} {W : Nat → Nat → List V → Hp → Prop} {c : Cons}
theorem seg_gx (hco : Y.env.scope.isCoroutine = false) (hcalm : Y.calm = true) (hover : A.over (.compLoop (.GeneratorExp elt [⟨tg, iter, ifs, 0⟩] scope pos) 0 (.ref it) .none Y.env) [] = Y.A) (hxe : Y.xe = fun _ _ => False)
    (T : Turn Y.prog Y.w Y.K tg J fp it tn) (hfp : ∀ b ∈ fp, b ∈ Y.ex) (hfc : ∀ b ∈ fp, b ∉ c.cs) (hpc : ∀ p ∈ Y.pn, p.1 ∉ c.cs) (hpf : ∀ p ∈ Y.pn, p.1 ∉ fp)
    (hA : ∀ b ∈ c.cs, Y.s_0.heap.objs.size ≤ b ∧ ∀ x k, Y.env.cells.lookup x = some k → k ≠ b) (hgen : ∀ h : Heap, (∀ p ∈ Y.pn, h.get? p.1 = some p.2) → h.IsGen a gi)
    (pg : PG Y tg g) (pt : PTs Y ifs tt) (pe : PE Y elt te) (turn : GxTurn J g tt te σ' Q Yd W) (hl' : σ'.length = Y.N.length) :
    ∀ (m i n : Nat) (ys : List V) (cp : List (Addr × Obj)) (H : Hp) (s₀ s : Shared), W i m ys H → n + ys.length = sizeLine → c.cr ys cp → Inv Y cp σ' H s → tn i s.heap → (∀ b ∈ fp, H b = none) →
      Seg (model Y.prog Y.w) A (fun n s₀ r s1 => r = .ok .next ∧ LEnd Y.prog Y.w Y.outer Y.ex Y.H_0 Y.s_0 c Q n s₀ s1) (LItem Y.prog Y.w Y.outer Y.ex Y.H_0 Y.s_0 c Yd a gi) n s₀
        (.compLoop (.GeneratorExp elt [⟨tg, iter, ifs, 0⟩] scope pos) 0 (.ref it) .none Y.env) ((model Y.prog Y.w).den (.compLoop (.GeneratorExp elt [⟨tg, iter, ifs, 0⟩] scope pos) 0 (.ref it) .none Y.env)) [] s := by
  have no : ∀ {e : Value} {s : Shared} {Z : Prop}, Y.xe e s → Z := fun {e s Z} h => by rw [hxe] at h; exact h.elim
  have stat : ∀ {pins : List (Addr × Obj)} {σ : L2.St} {H' : Hp} {s' : Shared}, Inv Y pins σ H' s' → (∀ p ∈ pins, p.1 ∉ fp) → (∀ b ∈ fp, H' b = none) → ∀ b ∈ fp, FpOk Y pins H' b := fun {pins σ H' s'} I' hp hn b hb =>
    ⟨hn b hb, (I'.ok.exf b (hfp b hb)).1, I'.ok.exfs b (hfp b hb), .inl (hfp b hb), fun x k e => (I'.ok.exf b (hfp b hb)).2 x k e, fun p hq e => by
      rcases List.mem_append.mp hq with q | q
      · exact hpf p q (e ▸ hb)
      · exact hp p q (e ▸ hb)⟩
  have cpf : ∀ {ys : List V} {cp : List (Addr × Obj)}, c.cr ys cp → ∀ p ∈ cp, p.1 ∉ fp := fun {ys cp} h p hp hf => by
    refine hfc p.1 hf ?_
    rw [← (c.ok ys cp h).1]
    exact List.mem_map.mpr ⟨p, hp, rfl⟩
  intro m
  induction m using Nat.strongRecOn with
  | ind m ih =>
    intro i n ys cp H s₀ s hw hn hcr I st fn
    show Seg _ A _ _ n s₀ _ ((compTurn (.GeneratorExp elt [⟨tg, iter, ifs, 0⟩] scope pos) 0 (.ref it) .none Y.env).onRaise (leaving Y.env)) [] s
    rw [compTurn_gen, Sem.onRaise_eq_wrap]
    refine seg_bind_wrap (wpAny_standAt ?_)
    rcases turn i m ys H hw with ⟨stop, q⟩ | ⟨go, Nx, hNx, step⟩
    · refine seg_bind_wrap ?_
      rw [hover]
      refine thn (T.done Y rfl rfl rfl hcalm i cp s σ' H _ I (stat I (cpf hcr) fn) st stop) fun r s1 ⟨hr, I1⟩ => ?_
      subst hr
      refine seg_end (.ok .next) ⟨rfl, H, ys, cp, Out.of I1, hcr, fun p hp => ?_, by omega, q⟩
      obtain ⟨h1, h2, _⟩ := I1.pin p (List.mem_append_right _ hp)
      exact ⟨h1, h2⟩
    · refine seg_bind_wrap ?_
      rw [hover]
      refine thn (T.item Y rfl rfl rfl hcalm i cp s σ' H _ I (stat I (cpf hcr) fn) st go) fun r s1 ⟨u, hr, h1⟩ => ?_
      subst hr
      refine seg_bind_wrap ?_
      rw [hover]
      refine thn h1 fun _ s2 ⟨x, H2, I2, r2, y2, st2, fn2⟩ => ?_
      have I2' := I2.pinned (stat I2 (cpf hcr) fn2) (T.obj _ _ st2)
      refine seg_bind_wrap ?_
      rw [hover]
      refine wpAny_mono (pg.run _ s2 _ H2 x u _ I2' r2 (step x H2 y2)) (fun _ s3 ⟨σ3, H3, I3, sub, q3⟩ => ?_) fun _ _ z => no z
      refine seg_bind_wrap ?_
      rw [hover]
      refine wpAny_mono (pt.run _ s3 σ3 H3 _ I3 q3) (fun b s4 ⟨H4, I4, q4⟩ => ?_) fun _ _ z => no z
      have next : ∀ {s' : Shared} {H' : Hp} {cp' : List (Addr × Obj)}, Inv Y (cp' ++ pinsAt fp s2.heap) σ3 H' s' → Inv Y cp' σ' H' s' ∧ tn (i + 1) s'.heap ∧ ∀ b ∈ fp, H' b = none := fun {s' H' cp'} I' => by
        have pin' : ∀ b ∈ fp, ∀ o, s2.heap.get? b = some o → s'.heap.get? b = some o ∧ H' b = none := fun b hb o e =>
          let z := I'.pin (b, o) (List.mem_append_right _ (List.mem_append_right _ (mem_pinsAt hb e)))
          ⟨z.1, z.2.1⟩
        refine ⟨(I'.unpinned).weak (hl'.trans I'.len.symm) sub, T.keep _ _ _ st2 fun b hb o e => (pin' b hb o e).1, fun b hb => ?_⟩
        obtain ⟨o, e, _⟩ := T.obj _ _ st2 b hb
        exact (pin' b hb o e).2
      cases b with
      | false =>
        simp only [Bool.false_eq_true, if_false] at q4 ⊢
        obtain ⟨m', hm, w'⟩ := hNx _ _ q4
        obtain ⟨J1, J2, J3⟩ := next I4
        exact seg_again rfl (ih m' hm (i + 1) n ys cp H4 s₀ s4 w' hn hcr J1 J2 J3)
      | true =>
        simp only [if_true] at q4 ⊢
        have hy : ∀ v, yieldOut Y.env v = yieldValue v := fun v => by simp only [yieldOut, hco, Bool.false_eq_true, if_false]
        simp only [hy]
        rw [Sem.bind_eq_wrap', Sem.bind_eq_wrap', Sem.wrap_wrap, Sem.wrap_wrap]
        refine seg_wrap ?_
        rw [hover]
        refine wpAny_mono (pe.run _ s4 σ3 H4 _ I4 q4) (fun y s5 ⟨yv, H5, I5, r5, hlt, q5⟩ => ?_) fun _ _ z => no z
        obtain ⟨n, rfl⟩ : ∃ k, n = k + 1 := ⟨n - 1, by omega⟩
        refine seg_at (seg_yield rfl rfl rfl ⟨ys, yv, cp, H5, _, r5, Out.of I5, I5.nolimit, hgen _ fun p hp => (I5.pin p (List.mem_append_left _ hp)).1, hcr, fun p hp => ?_, by omega, q5, ?_⟩)
        · obtain ⟨h1, h2, _⟩ := I5.pin p (List.mem_append_right _ (List.mem_append_left _ hp))
          exact ⟨h1, h2⟩
        · intro hnx s' cp' hcr' z
          obtain ⟨m', hm, w'⟩ := hNx _ _ hnx
          have I6 := woken (c.ok _ _ hcr).1 (c.ok _ _ hcr').1 (c.ok _ _ hcr').2 hpc (fun p hp => hfc _ (of_pinsAt hp).1) hA I5 z
          obtain ⟨J1, J2, J3⟩ := next I6
          exact seg_again rfl (ih m' hm (i + 1) n (ys ++ [yv]) cp' H5 s' s' w' (by rw [List.length_append, List.length_singleton]; omega) hcr' J1 J2 J3)
end
end Kk

set_option maxHeartbeats 1000000
namespace Kk
open PySem PySem.Spec PyProof.Rows L2 GenW
/-- the generator expression's scope -/
structure GxS (osc sc : Scope) : Prop where
  kind : sc.kind = .function
  co : sc.isCoroutine = false
  cell : ∀ y ∈ sc.names, y.2 ≠ .cell
  dot : sc.names.lookup (".0" : Str) = some NameKind.local
  free : ∀ y ∈ sc.names, y.2 = .free → osc.names.lookup y.1 = some .cell ∨ osc.names.lookup y.1 = some .free
/-- its names: nt of its own, then those of around, by their places there -/
structure GxN (N : List Str) (osc sc : Scope) (N' : List Str) (nt : Nat) (js : List Nat) : Prop where
  len : N'.length = nt + js.length
  fr : ∀ i j, js[i]? = some j → ∃ y, N'[nt + i]? = some y ∧ N[j]? = some y ∧ sc.names.lookup y = some .free ∧ (osc.names.lookup y = some .cell ∨ osc.names.lookup y = some .free)
theorem GxN.none {N : List Str} {osc sc : Scope} {N' : List Str} : GxN N osc sc N' N'.length [] := ⟨by simp, fun i j h => by simp at h⟩
def gst (nt : Nat) (js : List Nat) (σ : L2.St) : L2.St := List.replicate nt Option.none ++ js.map fun j => (σ[j]?).join
abbrev geOf (X : Cx) (sc : Scope) (C : Addr) (code : Value) : Env := genEnv sc (cloFrom X.env.cells sc.names []) C code builtinsNs X.env
theorem inv_gx {X : Cx} {pins : List (Addr × Obj)} {σ : L2.St} {H : Hp} {sc s2 : Shared} {A : Around} {scope : Scope} {C : Addr} {code : Value} {N' : List Str} {nt : Nat} {js : List Nat} {fp : List Addr} {pn cp : List (Addr × Obj)} {m0 : Str → Option Value}
    (J : Inv X pins σ H sc) (gs : GxS X.env.scope scope) (gn : GxN X.N X.env.scope scope N' nt js) (hA : A.handled = Option.none) (hfr : A.frames = some X.stack) (hC : sc.heap.objs.size ≤ C) (hfp : ∀ b ∈ fp, FpOk X pins H b ∧ b < sc.heap.objs.size)
    (kept : ∀ b o, sc.heap.get? b = some o → s2.heap.get? b = some o) (ns : s2.heap.Ns C m0) (os : s2.os = sc.os) (bare : AllBare s2.gens) (hpn : ∀ p ∈ pn ++ cp, s2.heap.get? p.1 = some p.2 ∧ C < p.1 ∧ ∀ v, p.2.data ≠ .cell v) :
    Inv (gxC X A (geOf X scope C code) N' sc H fp pn) cp (gst nt js σ) H s2 := by
  have hfree : ∀ y ∈ scope.names, y.2 = .free → ∃ c, X.env.cells.lookup y.1 = some c := fun y hy e => J.ok.has _ (gs.free y hy e)
  have cm : ∀ {y c}, (geOf X scope C code).cells.lookup y = some c → X.env.cells.lookup y = some c := fun {y c} hm => by
    have hm : (cloFrom X.env.cells scope.names []).lookup y = some c := hm
    rcases cloFrom_mem (PySem.mem_of_lookup hm) with hm | ⟨h1, rfl⟩
    · cases hm
    · obtain ⟨c, hc⟩ := hfree _ h1 rfl
      have hc : X.env.cells.lookup y = some c := hc
      rw [hc]; rfl
  have look : ∀ {y}, scope.names.lookup y = some .free → ∃ c, (geOf X scope C code).cells.lookup y = some c ∧ X.env.cells.lookup y = some c := fun {y} hl => by
    obtain ⟨c', e'⟩ := mem_lookup (cloFrom_has (cells := X.env.cells) (acc := []) (PySem.mem_of_lookup hl))
    exact ⟨c', e', cm e'⟩
  have clt : ∀ {y c}, X.env.cells.lookup y = some c → c < sc.heap.objs.size := fun {y c} e => by
    obtain ⟨v, q⟩ := J.cell y c e
    exact q.lt
  refine ⟨⟨J.ok.mod, gs.kind, J.ok.glob, rfl, hC, fun y z c e1 e2 => J.ok.inj y z c (cm e1) (cm e2), fun y hy => ?_, fun y c hq _ => ?_, fun _ => hA, Around.frames_deeper hfr, .inr ⟨rfl, rfl⟩, fun b hb => ⟨?_, fun y c e z => ?_⟩, J.bs, Nat.le_trans J.ok.bsz J.sz, fun b o e hb => ?_, fun b hb z => ?_, J.stack, J.stkFree⟩,
    os, bare, Un.kept kept, ⟨m0, ns, fun i y v h1 h2 h3 => ?_⟩, fun y c e => ?_, J.hok.fresh hC, fun y c e => J.freeC y c (cm e), fun p hp => ?_, J.hok.kept kept, ?_⟩
  · rcases hy with hy | hy
    · exact absurd rfl (gs.cell _ (PySem.mem_of_lookup hy))
    · obtain ⟨c, h1, _⟩ := look hy
      exact ⟨c, h1⟩
  · cases hq
  · exact Nat.ne_of_lt (Nat.lt_of_lt_of_le (hfp b hb).2 hC)
  · exact (hfp b hb).1.2.2.2.2.1 y c (cm e) z
  · obtain ⟨_, _, _, h4, _⟩ := (hfp b hb).1
    rcases h4 with h4 | h4
    · exact J.ok.noex b o e h4
    · exact absurd (Nat.lt_of_lt_of_le (Heap.lt_size e) (Nat.le_trans J.ok.bsz h4)) (Nat.lt_irrefl _)
  · obtain ⟨_, h2, h3, _⟩ := (hfp b hb).1
    rcases List.mem_cons.mp (J.stkSub b z) with q | q
    · exact h2 q
    · exact h3 q
  · have h2 : (gst nt js σ)[i]? = some (some v) := h2
    unfold gst at h2
    by_cases hi : i < nt
    · rw [List.getElem?_append_left (by simpa using hi), List.getElem?_replicate] at h2
      rw [if_pos hi] at h2; cases h2
    · rw [List.getElem?_append_right (by simpa using hi), List.getElem?_map, List.length_replicate] at h2
      cases hj : js[i - nt]? with
      | none => rw [hj] at h2; cases h2
      | some j =>
        rw [hj] at h2
        have hv : (σ[j]?).join = some v := by simpa using h2
        obtain ⟨y', e1, e2, e3, e4⟩ := gn.fr _ _ hj
        have ei : nt + (i - nt) = i := by omega
        rw [ei] at e1
        have h1 : N'[i]? = some y := h1
        rw [h1] at e1; cases e1
        have hs : σ[j]? = some (some v) := by
          cases q : σ[j]? with
          | none => rw [q] at hv; cases hv
          | some o => rw [q] at hv; cases o with
            | none => cases hv
            | some w => cases hv; rfl
        obtain ⟨m, hm, hlk⟩ := J.loc
        have vis : Vis X.env.scope y := by
          rcases e4 with q | q
          · exact .inr (.inl q)
          · exact .inr (.inr q)
        obtain ⟨u, ru, hL⟩ := hlk j y v e2 hs vis
        refine ⟨u, ru, .inr ⟨.inr e3, ?_⟩⟩
        obtain ⟨c, c1, c2⟩ := look e3
        rcases hL with ⟨q, _⟩ | ⟨_, c', c3, c4⟩
        · have q : X.env.scope.names.lookup y = some .local := q
          rcases e4 with z | z <;> (rw [z] at q; cases q)
        · rw [c2] at c3; cases c3
          exact ⟨c, c1, c4.keeps kept⟩
  · obtain ⟨v, q⟩ := J.cell y c (cm e)
    exact ⟨v, q.keeps kept⟩
  · obtain ⟨h1, h2, h3⟩ := hpn p hp
    have h2' : sc.heap.objs.size ≤ p.1 := Nat.le_trans hC (Nat.le_of_lt h2)
    refine ⟨h1, J.hok.fresh h2', Nat.ne_of_gt h2, fun z => ?_, h3⟩
    have z : p.1 ∈ frs X.stack := z
    rcases List.mem_cons.mp (J.stkSub _ z) with q | q
    · have := J.lt; rw [q] at h2'; exact absurd (Nat.lt_of_lt_of_le this h2') (Nat.lt_irrefl _)
    · exact J.nofs h2' q
  · show (gst nt js σ).length = N'.length
    rw [gn.len]; unfold gst; simp
end Kk

set_option maxHeartbeats 1000000
namespace Kk
open PySem PySem.Spec PyProof.Rows L2 GenW
theorem over_gx {A : Around} {elt tg iter : Expr} {ifs : List Expr} {scope : Scope} {pos : Pos} {it acc : Value} {env : Env} : A.over (.compLoop (.GeneratorExp elt [⟨tg, iter, ifs, 0⟩] scope pos) 0 it acc env) [] = A.deeper env := by
  first
    | rfl
    | (obtain ⟨hd, d, fr, gs, u⟩ := A; simp [Around.over, Around.deeper, marksOver, frameCount, unitsOf, envsOf, guardsOf, pushEnvs, pushGuards, Code.envs, Code.env?, Code.isFrame, Code.guards, Code.isGuard, Code.weight, Code.frames, Code.isCreation, Code.isCaller, Code.cUnits])
section
variable {prog : Program} {w : World} {A : Around} {R : GenEnd} {Y : Protocol} {n : Nat} {s₀ s : Shared} {tg elt iter : Expr} {ifs : List Expr} {scope : Scope} {pos : Pos} {it : Addr} {env : Env}
theorem seg_gxStart (loop : Seg (model prog w) A R Y n s₀ (.compLoop (.GeneratorExp elt [⟨tg, iter, ifs, 0⟩] scope pos) 0 (.ref it) .none env) ((model prog w).den (.compLoop (.GeneratorExp elt [⟨tg, iter, ifs, 0⟩] scope pos) 0 (.ref it) .none env)) [] s)
    (self : ∀ (A : Around) (Q : Value → Shared → Prop) (E : Value → Shared → Prop), Q (.ref it) s → wpAny (model prog w) A (pyIter (.ref it)) Q E s) :
    Seg (model prog w) A R Y n s₀ (.compStart (.GeneratorExp elt [⟨tg, iter, ifs, 0⟩] scope pos) 0 (.ref it) .none env) ((model prog w).den (.compStart (.GeneratorExp elt [⟨tg, iter, ifs, 0⟩] scope pos) 0 (.ref it) .none env)) [] s := by
  show Seg _ A _ _ _ s₀ _ ((compStart (.GeneratorExp elt [⟨tg, iter, ifs, 0⟩] scope pos) 0 (.ref it) .none env).onRaise (leaving env)) [] s
  unfold compStart
  rw [Sem.onRaise_eq_wrap]
  show Seg _ A _ _ _ s₀ _ ((ask >>= _).wrap _ _ _ _) [] s
  refine seg_bind_wrap (wpAny_askSetting ?_)
  split
  · exact seg_again rfl loop
  · first
      | exact seg_bind_wrap (wpAny_rule (seg_bind_wrap (wpAny_standAt (seg_bind_wrap (self _ _ _ (seg_again rfl loop))))))
      | (refine seg_bind_wrap (wpAny_rule ?_); show Seg _ A _ _ _ s₀ _ ((standAt iter.pos >>= _).wrap _ _ _ _) [] s; exact seg_bind_wrap (wpAny_standAt (seg_bind_wrap (self _ _ _ (seg_again rfl loop)))))
end
/-- a generator that has not begun -/
def GxMade (X : Cx) (pins : List (Addr × Obj)) (σ : L2.St) (k : Nat) (Q : List V → Hp → Prop) (Yd : List V → V → Hp → Prop → Prop) (u : Value) (s5 : Shared) : Prop :=
  ∃ (a : Addr) (g : Nat) (c : Code) (H1 : Hp) (sc : Shared) (fp : List Addr), u = .ref a ∧ Inv X pins σ H1 sc ∧ ExOk X pins fp ∧ sc.heap.objs.size ≤ a ∧ a < s5.heap.objs.size ∧ s5.heap.IsGen a g ∧ s5.gens[g]? = some (.fresh c) ∧ s5.os = sc.os ∧ AllBare s5.gens ∧ s5.heap.NoLimit ∧
    (∀ b o, sc.heap.get? b = some o → s5.heap.get? b = some o) ∧
    ∀ (A : Around) (cn : Cons) (cp : List (Addr × Obj)) (s2 : Shared), Room k A → A.frames = some X.stack → (∀ b ∈ cn.cs, s5.heap.objs.size ≤ b) → (∀ b o, s5.heap.get? b = some o → s2.heap.get? b = some o) → cn.cr [] cp → (∀ p ∈ cp, s2.heap.get? p.1 = some p.2) →
      s2.os = sc.os → AllBare s2.gens →
      Seg (model X.prog X.w) A (fun n s₀ r s1 => r = .ok .next ∧ LEnd X.prog X.w X.stack fp H1 sc cn Q n s₀ s1) (LItem X.prog X.w X.stack fp H1 sc cn Yd a g) sizeLine s2 c ((model X.prog X.w).den c) [] s2
/-- the reading of a generator expression -/
def tGx (P : Addr) (wi : TI) (g : TG) (tt : TT) (te : TE) (nt : Nat) (js : List Nat) : L2.St → Hp → (List V → Hp → Prop) → (List V → V → Hp → Prop → Prop) → Prop := fun σ H Q Yd =>
  wi σ H fun J H1 => GxR.TabG H1 P ∧ ∀ H2, GxR.Tabbed P H1 H2 → ∃ W : Nat → Nat → List V → Hp → Prop, (∃ m, W 0 m [] H2) ∧ GxTurn J g tt te (gst nt js σ) Q Yd W
section
variable {X : Cx} {pins : List (Addr × Obj)} {σ : L2.St} {H : Hp} {s : Shared}
theorem gx_make {c P : Addr} {tg elt iter : Expr} {ifs : List Expr} {gp : Pos} {scope : Scope} {wi : TI} {g : TG} {tt : TT} {te : TE} {k : Nat} {N' : List Str} {nt : Nat} {js : List Nat} {Q : List V → Hp → Prop} {Yd : List V → V → Hp → Prop → Prop}
    (room : Room (k + 1) X.A) (tab : GxR.TabB X.base X.mg c P) (code : X.env.code = .ref c) (gs : GxS X.env.scope scope) (gn : GxN X.N X.env.scope scope N' nt js) (pit : PI X tg iter wi)
    (pg : ∀ (A : Around) (C : Addr) (cv : Value) (s : Shared) (H : Hp) (fp : List Addr) (pn : List (Addr × Obj)), Room k (A.deeper (geOf X scope C cv)) → PG (gxC X A (geOf X scope C cv) N' s H fp pn) tg g)
    (pt : ∀ (A : Around) (C : Addr) (cv : Value) (s : Shared) (H : Hp) (fp : List Addr) (pn : List (Addr × Obj)), Room k (A.deeper (geOf X scope C cv)) → PTs (gxC X A (geOf X scope C cv) N' s H fp pn) ifs tt)
    (pe : ∀ (A : Around) (C : Addr) (cv : Value) (s : Shared) (H : Hp) (fp : List Addr) (pn : List (Addr × Obj)), Room k (A.deeper (geOf X scope C cv)) → PE (gxC X A (geOf X scope C cv) N' s H fp pn) elt te)
    (fold : ∀ v, genFold iter X.env v = pure v) (I : Inv X pins σ H s) (want : tGx P wi g tt te nt js σ H Q Yd) :
    wpAny (model X.prog X.w) X.A (eval (.GeneratorExp elt [⟨tg, iter, ifs, 0⟩] scope gp) X.env) (GxMade X pins σ (k + 1) Q Yd) X.xe s := by
  have deep : X.A.depth < recursionLimit := by have q := room.dp; omega
  have hfree : ∀ y ∈ scope.names, y.2 = .free → ∃ c, X.env.cells.lookup y.1 = some c := fun y hy e => I.ok.has _ (gs.free y hy e)
  refine wpAny_GeneratorExp_make gs.co (closure_ok hfree) gs.cell gs.dot gs.kind deep ?_ fold
  refine thn (pit.run pins s σ H _ I want) fun xv z h1 => thn h1 fun itv z2 h2 => ?_
  obtain ⟨it, fp, tn, J, H2, rfl, I2, T, st2, f2, ⟨rows, isT, trip⟩, rest⟩ := h2
  have atP : z2.heap.get? P = some { cls := .none, data := .fields rows } := I2.hok P _ isT
  have ltP : P < z2.heap.objs.size := Heap.lt_size atP
  have chd : PySem.W.CodeHd z2.heap c P := tab.code.keeps fun b u q => I2.bk b u q
  have flt : ∀ b ∈ fp, b < z2.heap.objs.size := fun b hb => by
    obtain ⟨o, e, _⟩ := T.obj _ _ st2 b hb
    exact Heap.lt_size e
  have fnP : ∀ b ∈ fp, b ≠ P := fun b hb q => by
    have := (f2 b hb).1
    rw [q, isT] at this; cases this
  refine ⟨I2.nolimit, ?_⟩
  have go : ∀ (cv : Value) (h3 : Heap) (tk : Nat) (rows' : Array Value), Heap.ExtBut P z2.heap h3 → z2.heap.objs.size ≤ h3.objs.size →
      h3.get? P = some { cls := .none, data := .fields rows' } → (∃ more, rows' = rows ++ more) → TriplesOk rows'.toList →
      wpAny (model X.prog X.w) X.A (builtinsFor X.env.globals X.env.builtins) (fun bi s₄ =>
        ∀ h', h'.Ns s₄.heap.objs.size (fun y => if y = ".0" then some (.ref it) else none) → Heap.SameBut s₄.heap.objs.size (s₄.heap.push { cls := .type "frame", data := .dict #[] }) h' →
          GxMade X pins σ (k + 1) Q Yd (.ref h'.objs.size) { s₄ with
            gens := s₄.gens.push (.fresh (.compStart (.GeneratorExp elt [⟨tg, iter, ifs, 0⟩] scope gp) 0 (.ref it) .none (genEnv scope (cloFrom X.env.cells scope.names []) s₄.heap.objs.size cv bi X.env))),
            toks := s₄.toks + 1 + 1 + 1,
            heap := h'.push { cls := .type "generator", data := .fields #[.int s₄.gens.size 0, .str "<genexpr>" (s₄.toks + 1), .str (X.env.qual ++ "<genexpr>") (s₄.toks + 1 + 1)] } }) X.xe { z2 with heap := h3, toks := tk } := by
    intro cv h3 tk rows' ext le3 at3 grown trip3
    obtain ⟨bm, ob, b1, b2, b3, b4, b5, b6, b7, b8⟩ := tab.bm
    obtain ⟨more, em⟩ := grown
    have kp3 : ∀ b u, b ≠ P → z2.heap.get? b = some u → h3.get? b = some u := fun b u nb q => ext b u nb q
    have J3 := GxR.inv_tab (more := more) (h' := h3) (g' := z2.gens) (d' := z2.drawn) (t' := tk) I2 isT kp3 (by rw [← em]; exact at3) I2.bare
    generalize hH3 : upd H2 P (.tbl (rows ++ more)) = H3 at J3
    have tabd : GxR.Tabbed P H2 H3 := by
      rw [← hH3]
      exact ⟨⟨rows ++ more, upd_same, by rw [← em]; exact trip3⟩, fun b nb => upd_ne nb⟩
    obtain ⟨W, ⟨m0, w0⟩, turn⟩ := rest H3 tabd
    refine wpAny_builtinsFor (m := X.mg) (by rw [J3.ok.glob]; exact J3.mod.glob.keeps J3.bk) b1 b2 (kp3 _ _ b4 (I2.bk _ _ b5)) b6 b7 b8 ?_
    intro h' hn' hs'
    generalize hsc : ({ z2 with heap := h3, toks := tk } : Shared) = sc at J3 hn' hs' ⊢
    have sch : sc.heap = h3 := by rw [← hsc]
    have st3 : tn 0 sc.heap := T.keep _ _ _ st2 fun b hb o e => by rw [sch]; exact kp3 b o (fnP b hb) e
    have f3 : ∀ b ∈ fp, FpOk X pins H3 b ∧ b < sc.heap.objs.size := fun b hb => by
      refine ⟨⟨?_, (f2 b hb).2⟩, by rw [sch]; exact Nat.lt_of_lt_of_le (flt b hb) le3⟩
      rw [tabd.2 b (fnP b hb)]
      exact (f2 b hb).1
    have hsz : h'.objs.size = sc.heap.objs.size + 1 := by rw [hs'.1, Heap.size_push]
    have keep' : ∀ b o, sc.heap.get? b = some o → h'.get? b = some o := fun b o e => hs'.extBut b o (Nat.ne_of_lt (Heap.lt_size e)) (Heap.get?_push_of_some _ e)
    generalize hgo : ({ cls := .type "generator", data := .fields #[.int sc.gens.size 0, .str "<genexpr>" (sc.toks + 1), .str (X.env.qual ++ "<genexpr>") (sc.toks + 1 + 1)] } : Obj) = go
    have gofr : go.isFreed = false := by rw [← hgo]; rfl
    have keep5 : ∀ b o, sc.heap.get? b = some o → (h'.push go).get? b = some o := fun b o e => Heap.get?_push_of_some _ (keep' b o e)
    have hpushed : (h'.push go).get? h'.objs.size = some go := Heap.get?_push_size _ gofr
    have hgen : ∀ h : Heap, h.get? h'.objs.size = some go → h.IsGen h'.objs.size sc.gens.size := fun h e => ⟨go, _, _, e, by rw [← hgo], by rw [← hgo], by rw [← hgo]⟩
    have bare5 : AllBare (sc.gens.push (.fresh (.compStart (.GeneratorExp elt [⟨tg, iter, ifs, 0⟩] scope gp) 0 (.ref it) .none (geOf X scope sc.heap.objs.size cv)))) := AllBare.push J3.bare rfl
    refine ⟨h'.objs.size, sc.gens.size, _, H3, sc, fp, rfl, J3, fun b hb => ⟨(f3 b hb).1.2.2.2.1, (f3 b hb).1.2.1, (f3 b hb).1.2.2.2.2.1, (f3 b hb).1.2.2.2.2.2⟩, by omega, ?_, hgen _ hpushed, Array.getElem?_push_size .., rfl, bare5, J3.nolimit.keeps keep5, keep5, ?_⟩
    · show _ < (h'.push go).objs.size
      rw [Heap.size_push]; exact Nat.lt_succ_self _
    intro A cn cp s2 hr hfr hcs hk2 hcr hcp hos hba
    have kept : ∀ b o, sc.heap.get? b = some o → s2.heap.get? b = some o := fun b o e => hk2 b o (keep5 b o e)
    have ns2 : s2.heap.Ns sc.heap.objs.size (fun y => if y = ".0" then some (.ref it) else none) := by
      refine (hn'.push go).at' fun o e => hk2 _ o e
    have hea : s2.heap.get? h'.objs.size = some go := hk2 _ go hpushed
    have csz : ∀ b ∈ cn.cs, h'.objs.size < b := fun b hb => by
      have q := hcs b hb
      have q : (h'.push go).objs.size ≤ b := q
      rw [Heap.size_push] at q; exact q
    have cpa : ∀ p ∈ cp, p.1 ∈ cn.cs := fun p hp => by
      rw [← (cn.ok _ _ hcr).1]; exact List.mem_map.mpr ⟨p, hp, rfl⟩
    have IY : Inv (gxC X A (geOf X scope sc.heap.objs.size cv) N' sc H3 fp [(h'.objs.size, go)]) cp (gst nt js σ) H3 s2 := by
      refine inv_gx J3 gs gn hr.hd hfr (Nat.le_refl _) f3 kept ns2 hos hba fun p hp => ?_
      rcases List.mem_append.mp hp with q | q
      · rw [List.mem_singleton.mp q]
        exact ⟨hea, by show sc.heap.objs.size < h'.objs.size; omega, fun v q => by rw [← hgo] at q; cases q⟩
      · refine ⟨hcp p q, ?_, (cn.ok _ _ hcr).2 p q⟩
        have := csz _ (cpa p q)
        show sc.heap.objs.size < p.1
        omega
    have rk : Room k (A.deeper (geOf X scope sc.heap.objs.size cv)) := hr.deeper _
    have st5 : tn 0 s2.heap := T.keep _ _ _ st3 fun b hb o e => kept b o e
    refine seg_gxStart ?_ fun A' Q' E' h => T.self A' 0 s2 Q' E' st5 h
    refine seg_gx (Y := gxC X A (geOf X scope sc.heap.objs.size cv) N' sc H3 fp [(h'.objs.size, go)]) gs.co rfl over_gx rfl T (fun b hb => hb) (fun b hb hc => ?_) (fun p hp hc => ?_) (fun p hp hc => ?_) (fun b hb => ⟨?_, fun x q e z => ?_⟩) (fun h hh => hgen h (hh _ (List.mem_singleton.mpr rfl)))
      (pg A _ cv sc H3 fp _ rk) (pt A _ cv sc H3 fp _ rk) (pe A _ cv sc H3 fp _ rk) turn IY.len m0 0 sizeLine [] cp H3 s2 s2 w0 rfl hcr IY st5 fun b hb => (f3 b hb).1.1
    · have h1 : h'.objs.size < b := csz b hc
      have h2 : b < sc.heap.objs.size := (f3 b hb).2
      exact absurd (Nat.lt_trans h1 h2) (by rw [hsz]; exact Nat.not_lt.mpr (Nat.le_succ _))
    · rw [List.mem_singleton.mp hp] at hc
      exact Nat.lt_irrefl _ (csz _ hc)
    · rw [List.mem_singleton.mp hp] at hc
      have := (f3 _ hc).2
      have : h'.objs.size < sc.heap.objs.size := this
      omega
    · have := csz b hb
      show sc.heap.objs.size ≤ b
      omega
    · obtain ⟨v, q2⟩ := IY.cell x q e
      obtain ⟨v3, q3⟩ : ∃ v, sc.heap.IsCell q v := by
        have e : (cloFrom X.env.cells scope.names []).lookup x = some q := e
        rcases cloFrom_mem (PySem.mem_of_lookup e) with hm | ⟨h1, h2⟩
        · cases hm
        · obtain ⟨c9, hc9⟩ := hfree _ h1 rfl
          have hc9 : X.env.cells.lookup x = some c9 := hc9
          rw [hc9] at h2
          rw [show q = c9 from h2]
          exact J3.cell x c9 hc9
      have h1 : q < sc.heap.objs.size := q3.lt
      have h2 : h'.objs.size < b := csz b hb
      rw [z] at h1
      exact absurd (Nat.lt_trans h2 h1) (by rw [hsz]; exact Nat.not_lt.mpr (Nat.le_succ _))
  cases am : codeAmong gp rows.toList with
  | none =>
    refine wpAny_genexprCodeX code (chd.code atP trip) (chd.tab atP) am fun c' h' tk hx hge hlt hco _ htab _ => ?_
    obtain ⟨o1, vs, f1, tf, fl, tg', inF, tx, tt', op, _, _, _, _, _, _, _, _, _, htr, _⟩ := hco
    exact go _ h' tk _ hx (Nat.le_trans hge (Nat.le_of_lt hlt)) htab.2 ⟨_, rfl⟩ htr
  | some cv =>
    refine wpAny_genexprCode_hit code (chd.code atP trip) am ?_
    exact go cv z2.heap z2.toks rows (Heap.ExtBut.refl _ _) (Nat.le_refl _) atP ⟨#[], by simp⟩ trip
end
end Kk

set_option maxHeartbeats 1000000
namespace Kk
open PySem PySem.Spec PyProof.Rows L2 GenW
section
variable {P : Program} {w : World} {outer : List Env} {ex : List Addr} {H : Hp} {sc : Shared} {cn : Cons} {Q : List V → Hp → Prop} {Yd : List V → V → Hp → Prop → Prop} {A : Around} {a : Addr} {g : Nat}
/-- the generator, ready to be woken, for m items at most -/
structure Wk (P : Program) (w : World) (outer : List Env) (ex : List Addr) (H : Hp) (sc : Shared) (cn : Cons) (Q : List V → Hp → Prop) (Yd : List V → V → Hp → Prop → Prop) (A : Around) (a : Addr) (g : Nat) (m : Nat) (s : Shared) : Prop where
  gen : s.heap.IsGen a g
  lim : s.heap.NoLimit
  goes : ∃ gs, s.gens[g]? = some gs ∧ gs.Goes (model P w) A.in1 (fun n s₀ r s1 => r = .ok .next ∧ LEnd P w outer ex H sc cn Q n s₀ s1) (LItem P w outer ex H sc cn Yd a g) m (.send .none) (s.setGen g .running)
theorem gx_next {m : Nat} {s : Shared} {Qn : Option Value → Shared → Prop} {E : Value → Shared → Prop} (hh : A.handled = none) (hd : A.depth < recursionLimit) (hac : a ∉ cn.cs) (hcc : cStatics ∉ cn.cs) (K : Wk P w outer ex H sc cn Q Yd A a g m s)
    (hitem : ∀ v s1 ys x cp H' nx, RelV x v → Out P w outer ex H H' sc s1 → cn.cr ys cp → (∀ p ∈ cp, s1.heap.get? p.1 = some p.2 ∧ H' p.1 = none) → ys.length < sizeLine → Yd ys x H' nx →
      (nx → ∀ s' cp', s'.gens = s1.gens → cn.cr (ys ++ [x]) cp' → Slp cn.cs cp' s1 s' → ∃ m', m = m' + 1 ∧ Wk P w outer ex H sc cn Q Yd A a g m' s') → Qn (some v) s1)
    (hend : ∀ s1, LEnd P w outer ex H sc cn Q m s s1 → Qn none s1) : wpAny (model P w) A (pyNext (.ref a)) Qn E s := by
  obtain ⟨hg, hl, gs, hgs, hgo⟩ := K
  have hgl : g < s.gens.size := (Array.getElem?_eq_some_iff.mp hgs).1
  refine wpAny_gsz (n := g + 1) hgl (wpAny_pyNext_genexpQ (P := fun n s₀ s1 => LEnd P w outer ex H sc cn Q n s₀ s1) hh hl hd hg hgs hgo (fun v s₁ gs' hbare hv hsz => ?_) fun s₁ hp h' hk hsz => ?_)
  · obtain ⟨ys, x, cp, H', nx, rv, out, lim1, gen1, hcr, hcp, hn, hy, hk⟩ := hv
    refine hitem v _ ys x cp H' nx rv ⟨out.os, allBare_setGen out.bare hbare, out.un, out.hok⟩ hcr hcp (by omega) hy fun hnx s' cp' hgens hcr' z => ?_
    have z2 : Slp cn.cs cp' s₁ (s'.setGen g .running) := ⟨z.os, allBare_setGen z.bare rfl, z.keep, z.own⟩
    have hk2 := hk hnx _ cp' hcr' z2
    cases m with
    | zero => exact False.elim hk2
    | succ m =>
      refine ⟨m, rfl, ?_, ?_, gs', ?_, hk2⟩
      · obtain ⟨o, nm, qn, ho, r⟩ := gen1
        exact ⟨o, nm, qn, z.keep a o hac ho, r⟩
      · obtain ⟨mc, hns, hnn⟩ := lim1
        exact ⟨mc, hns.at' fun o e => z.keep _ o hcc e, hnn⟩
      · rw [hgens]
        have q : (s₁.setGen g gs').gens.size = s₁.gens.size := setGen_size _ _ _
        have hsz' : g + 1 ≤ (s₁.setGen g gs').gens.size := hsz
        exact setGen_at (by omega)
  · obtain ⟨H', ys, cp, out, hcr, hcp, hle, hq⟩ := hp
    exact hend _ ⟨H', ys, cp, ⟨out.os, allBare_setGen out.bare rfl, out.un.trans (Un.kept hk), out.hok.kept hk⟩, hcr, fun p hp => ⟨hk _ _ (hcp p hp).1, (hcp p hp).2⟩, hle, hq⟩
end
/-- a consumer that keeps nothing -/
def c0 : Cons := ⟨[], fun _ cp => cp = [], fun ys cp h => by subst h; exact ⟨rfl, fun p hp => by cases hp⟩⟩
theorem Slp.refl {s : Shared} (h : AllBare s.gens) : Slp [] [] s s := ⟨rfl, h, fun _ _ _ e => e, fun p hp => by cases hp⟩
section
variable {P : Program} {w : World} {outer : List Env} {ex : List Addr} {H : Hp} {sc : Shared} {Q : Hp → Prop} {QF : Hp → Prop} {A : Around} {a : Addr} {g : Nat} {R : Result → Shared → Prop}
/-- all: the end by True, at a False the end -/
def ydAll (QF : Hp → Prop) : List V → V → Hp → Prop → Prop := fun _ y H nx => ∃ b, y = .bl b ∧ if b = true then nx else QF H
def ydAny (QT : Hp → Prop) : List V → V → Hp → Prop → Prop := fun _ y H nx => ∃ b, y = .bl b ∧ if b = true then QT H else nx
theorem gx_all (hh : A.handled = none) (hd : A.depth < recursionLimit) (hT : ∀ s' H', Out P w outer ex H H' sc s' → Q H' → R (.ok (.ret (.bool true))) s') (hF : ∀ s' H', Out P w outer ex H H' sc s' → QF H' → R (.ok (.ret (.bool false))) s') :
    ∀ (m : Nat) (s : Shared), Wk P w outer ex H sc c0 (fun _ => Q) (ydAll QF) A.in1 a g m s → codeAny (model P w) A (.builtin "all.loop" ⟨[.ref a], []⟩) R s := by
  intro m
  induction m with
  | zero =>
    intro s K
    refine codeAny_builtin F.entry_all_loop ?_
    rw [Around.under_plainId F.plain_all_loop _]
    show wpAny _ A.in1 (pyNext (.ref a) >>= _) _ _ s
    refine wpAny_bind (gx_next (A := A.in1) hh hd (by simp [c0]) (by simp [c0]) K (fun v s1 ys x cp H' nx rv out hcr hcp hlt hy hk => ?_) fun s1 he => ?_)
    · obtain ⟨b, rfl, hb⟩ := hy
      obtain rfl : v = Value.bool b := rv
      refine wpAny_bind (wpAny_holding (wpAny_truthy_bool ?_))
      refine wpAny_bind (wpAny_letGo ?_)
      cases b with
      | true =>
        obtain ⟨m', e, _⟩ := hk hb s1 [] rfl rfl (Slp.refl out.bare)
        cases e
      | false =>
        simp only [Bool.false_eq_true, if_false] at hb ⊢
        exact wpAny_bind (wpAny_rule (wpAny_pure (hF s1 H' out hb)))
    · obtain ⟨H', ys, cp, out, _, _, _, hq⟩ := he
      exact wpAny_bind (wpAny_rule (wpAny_pure (hT s1 H' out hq)))
  | succ m ih =>
    intro s K
    refine codeAny_builtin F.entry_all_loop ?_
    rw [Around.under_plainId F.plain_all_loop _]
    show wpAny _ A.in1 (pyNext (.ref a) >>= _) _ _ s
    refine wpAny_bind (gx_next (A := A.in1) hh hd (by simp [c0]) (by simp [c0]) K (fun v s1 ys x cp H' nx rv out hcr hcp hlt hy hk => ?_) fun s1 he => ?_)
    · obtain ⟨b, rfl, hb⟩ := hy
      obtain rfl : v = Value.bool b := rv
      refine wpAny_bind (wpAny_holding (wpAny_truthy_bool ?_))
      refine wpAny_bind (wpAny_letGo ?_)
      cases b with
      | true =>
        simp only [if_true] at hb ⊢
        obtain ⟨m', e, K'⟩ := hk hb s1 [] rfl rfl (Slp.refl out.bare)
        cases e
        exact wpAny_pure ⟨plainId_quiet F.plain_all_loop _, ih s1 K'⟩
      | false =>
        simp only [Bool.false_eq_true, if_false] at hb ⊢
        exact wpAny_bind (wpAny_rule (wpAny_pure (hF s1 H' out hb)))
    · obtain ⟨H', ys, cp, out, _, _, _, hq⟩ := he
      exact wpAny_bind (wpAny_rule (wpAny_pure (hT s1 H' out hq)))
theorem gx_any (hh : A.handled = none) (hd : A.depth < recursionLimit) (hT : ∀ s' H', Out P w outer ex H H' sc s' → QF H' → R (.ok (.ret (.bool true))) s') (hF : ∀ s' H', Out P w outer ex H H' sc s' → Q H' → R (.ok (.ret (.bool false))) s') :
    ∀ (m : Nat) (s : Shared), Wk P w outer ex H sc c0 (fun _ => Q) (ydAny QF) A.in1 a g m s → codeAny (model P w) A (.builtin "any.loop" ⟨[.ref a], []⟩) R s := by
  intro m
  induction m with
  | zero =>
    intro s K
    refine codeAny_builtin F.entry_any_loop ?_
    rw [Around.under_plainId F.plain_any_loop _]
    show wpAny _ A.in1 (pyNext (.ref a) >>= _) _ _ s
    refine wpAny_bind (gx_next (A := A.in1) hh hd (by simp [c0]) (by simp [c0]) K (fun v s1 ys x cp H' nx rv out hcr hcp hlt hy hk => ?_) fun s1 he => ?_)
    · obtain ⟨b, rfl, hb⟩ := hy
      obtain rfl : v = Value.bool b := rv
      refine wpAny_bind (wpAny_holding (wpAny_truthy_bool ?_))
      refine wpAny_bind (wpAny_letGo ?_)
      cases b with
      | false =>
        obtain ⟨m', e, _⟩ := hk hb s1 [] rfl rfl (Slp.refl out.bare)
        cases e
      | true =>
        simp only [if_true] at hb ⊢
        exact wpAny_bind (wpAny_rule (wpAny_pure (hT s1 H' out hb)))
    · obtain ⟨H', ys, cp, out, _, _, _, hq⟩ := he
      exact wpAny_bind (wpAny_rule (wpAny_pure (hF s1 H' out hq)))
  | succ m ih =>
    intro s K
    refine codeAny_builtin F.entry_any_loop ?_
    rw [Around.under_plainId F.plain_any_loop _]
    show wpAny _ A.in1 (pyNext (.ref a) >>= _) _ _ s
    refine wpAny_bind (gx_next (A := A.in1) hh hd (by simp [c0]) (by simp [c0]) K (fun v s1 ys x cp H' nx rv out hcr hcp hlt hy hk => ?_) fun s1 he => ?_)
    · obtain ⟨b, rfl, hb⟩ := hy
      obtain rfl : v = Value.bool b := rv
      refine wpAny_bind (wpAny_holding (wpAny_truthy_bool ?_))
      refine wpAny_bind (wpAny_letGo ?_)
      cases b with
      | false =>
        simp only [Bool.false_eq_true, if_false] at hb ⊢
        obtain ⟨m', e, K'⟩ := hk hb s1 [] rfl rfl (Slp.refl out.bare)
        cases e
        exact wpAny_pure ⟨plainId_quiet F.plain_any_loop _, ih s1 K'⟩
      | true =>
        simp only [if_true] at hb ⊢
        exact wpAny_bind (wpAny_rule (wpAny_pure (hT s1 H' out hb)))
    · obtain ⟨H', ys, cp, out, _, _, _, hq⟩ := he
      exact wpAny_bind (wpAny_rule (wpAny_pure (hF s1 H' out hq)))
end
end Kk

set_option maxHeartbeats 1000000
namespace Kk
open PySem PySem.Spec PyProof.Rows L2 GenW
/-- a consumer that fills the list at S -/
def cL (S : Addr) : Cons := ⟨[S], fun ys cp => ∃ (acc : Array Value) (c : Nat), cp = [(S, lstObj acc c)] ∧ Vals ys acc.toList, fun ys cp h => by
  obtain ⟨acc, c, rfl, _⟩ := h
  exact ⟨rfl, fun p hp v q => by rw [List.mem_singleton.mp hp] at q; cases q⟩⟩
def ydOn : List V → V → Hp → Prop → Prop := fun _ _ _ nx => nx
section
variable {P : Program} {w : World} {outer : List Env} {ex : List Addr} {H : Hp} {sc : Shared} {Q : List V → Hp → Prop} {A : Around} {a S : Addr} {g : Nat} {R : Result → Shared → Prop} {res : Value}
theorem gx_extend (hh : A.handled = none) (hd : A.depth < recursionLimit) (hSa : S ≠ a) (hSc : S ≠ cStatics)
    (hend : ∀ s' acc c H' ys, Out P w outer ex H H' sc s' → s'.heap.get? S = some (lstObj acc c) → H' S = none → Vals ys acc.toList → ys.length ≤ sizeLine → Q ys H' → R (.ok (.ret res)) s') :
    ∀ (m : Nat) (s : Shared), Wk P w outer ex H sc (cL S) Q ydOn A.in1 a g m s → codeAny (model P w) A (.builtin "list.extend.loop" ⟨[.ref S, .ref a, res], []⟩) R s := by
  have hac : a ∉ (cL S).cs := fun h => hSa (List.mem_singleton.mp h).symm
  have hcc : cStatics ∉ (cL S).cs := fun h => hSc (List.mem_singleton.mp h).symm
  intro m
  induction m with
  | zero =>
    intro s K
    refine codeAny_builtin F.entry_extend_loop ?_
    rw [Around.under_plainId F.plain_extend_loop _]
    show wpAny _ A.in1 (pyNext (.ref a) >>= _) _ _ s
    refine wpAny_bind (gx_next (A := A.in1) hh hd hac hcc K (fun v s1 ys x cp H' nx rv out hcr hcp hlt hy hk => ?_) fun s1 he => ?_)
    · obtain ⟨acc, c, rfl, hv⟩ := hcr
      have hS : s1.heap.get? S = some (lstObj acc c) := (hcp _ (List.mem_singleton.mpr rfl)).1
      obtain ⟨m', e, _⟩ := hk hy { s1 with heap := s1.heap.update S (Obj.mapSeq (·.push v)) } [(S, lstObj (acc.push v) _)] rfl ⟨_, _, rfl, by rw [Array.toList_push]; exact hv.append (.cons rv .nil)⟩
        ⟨rfl, out.bare, fun b o hb e => (Heap.get?_update_other _ _ (fun z => hb (List.mem_singleton.mpr z.symm))).trans e, fun p hp => by rw [List.mem_singleton.mp hp]; exact Heap.get?_update_self _ hS rfl⟩
      cases e
    · obtain ⟨H', ys, cp, out, hcr, hcp, hle, hq⟩ := he
      obtain ⟨acc, c, rfl, hv⟩ := hcr
      obtain ⟨q1, q2⟩ := hcp _ (List.mem_singleton.mpr rfl)
      exact wpAny_pure (hend s1 acc c H' ys out q1 q2 hv hle hq)
  | succ m ih =>
    intro s K
    refine codeAny_builtin F.entry_extend_loop ?_
    rw [Around.under_plainId F.plain_extend_loop _]
    show wpAny _ A.in1 (pyNext (.ref a) >>= _) _ _ s
    refine wpAny_bind (gx_next (A := A.in1) hh hd hac hcc K (fun v s1 ys x cp H' nx rv out hcr hcp hlt hy hk => ?_) fun s1 he => ?_)
    · obtain ⟨acc, c, rfl, hv⟩ := hcr
      have hS : s1.heap.get? S = some (lstObj acc c) := (hcp _ (List.mem_singleton.mpr rfl)).1
      have hasz : acc.size = ys.length := by
        have e1 := hv.length
        have e2 : acc.toList.length = acc.size := by simp
        omega
      show wpAny _ A.in1 (updateSeq S (·.push v) >>= _) _ _ _
      refine wpAny_bind ?_
      refine wpAny_updateSeq hS rfl (wpAny_pure ⟨plainId_quiet F.plain_extend_loop _, ?_⟩) (by show acc.size ≤ sizeLine; omega) (by show (acc.push v).size ≤ sizeLine + 1; rw [Array.size_push]; omega)
      obtain ⟨m', e, K'⟩ := hk hy { s1 with heap := s1.heap.update S (Obj.mapSeq (·.push v)) } [(S, lstObj (acc.push v) _)] rfl ⟨_, _, rfl, by rw [Array.toList_push]; exact hv.append (.cons rv .nil)⟩
        ⟨rfl, out.bare, fun b o hb e => (Heap.get?_update_other _ _ (fun z => hb (List.mem_singleton.mpr z.symm))).trans e, fun p hp => by rw [List.mem_singleton.mp hp]; exact Heap.get?_update_self _ hS rfl⟩
      cases e
      exact ih _ K'
    · obtain ⟨H', ys, cp, out, hcr, hcp, hle, hq⟩ := he
      obtain ⟨acc, c, rfl, hv⟩ := hcr
      obtain ⟨q1, q2⟩ := hcp _ (List.mem_singleton.mpr rfl)
      exact wpAny_pure (hend s1 acc c H' ys out q1 q2 hv hle hq)
end
section
variable {X : Cx} {pins : List (Addr × Obj)} {σ : L2.St} {k : Nat} {Q : List V → Hp → Prop} {A : Around} {s5 : Shared} {u : Value} {E : Value → Shared → Prop}
/-- what a made generator gives a consumer -/
theorem made_list (h : GxMade X pins σ k Q ydOn u s5) : ∃ (a : Addr) (g : Nat) (H1 : Hp) (sc : Shared) (fp : List Addr), u = .ref a ∧ Inv X pins σ H1 sc ∧ ExOk X pins fp ∧ a < s5.heap.objs.size ∧ s5.heap.IsGen a g ∧
    ∀ (A : Around) (S : Addr) (c : Nat) (s2 : Shared), Room k A.in1 → A.frames = some X.stack → s5.heap.objs.size ≤ S → (∀ b o, s5.heap.get? b = some o → s2.heap.get? b = some o) → s2.gens = s5.gens → s2.os = s5.os → s2.heap.get? S = some (lstObj #[] c) →
      Wk X.prog X.w X.stack fp H1 sc (cL S) Q ydOn A a g sizeLine s2 := by
  obtain ⟨a, g, c, H1, sc, fp, rfl, I1, hex, h1, h2, hgen, hgs, hos, hb, hl, hkp, wake⟩ := h
  refine ⟨a, g, H1, sc, fp, rfl, I1, hex, h2, hgen, fun A S cc s2 hr hfr hS hk hg ho hl2 => ⟨hgen.keeps hk, hl.keeps hk, .fresh c, by rw [hg]; exact hgs, rfl, ?_⟩⟩
  refine wake A.in1 (cL S) [(S, lstObj #[] cc)] (s2.setGen g .running) hr hfr (fun b hb => by rw [List.mem_singleton.mp hb]; exact hS) hk ⟨_, _, rfl, .nil⟩ (fun p hp => by rw [List.mem_singleton.mp hp]; exact hl2) (ho.trans hos) (allBare_setGen (by rw [hg]; exact hb) rfl)
/-- collect(g) -/
theorem gx_collect (hr : Room (k + 1) A) (hfr : A.frames = some X.stack) (h : GxMade X pins σ k Q ydOn u s5) {Q' : List Value → Shared → Prop}
    (hQ : ∀ s' acc H' ys, Inv X pins σ H' s' → Vals ys acc → ys.length ≤ sizeLine → Q ys H' → Q' acc s') : wpAny (model X.prog X.w) A (collect u) Q' E s5 := by
  obtain ⟨a, g, H1, sc, fp, rfl, I1, hex, h2, hgen, wk⟩ := made_list h
  have hlim : s5.heap.NoLimit := by
    obtain ⟨_, _, _, _, _, _, _, _, _, _, _, _, _, _, _, hl, _⟩ := h
    exact hl
  have hSa : s5.heap.objs.size ≠ a := Nat.ne_of_gt h2
  have hcl : cStatics < s5.heap.objs.size := let ⟨_, hn, _⟩ := hlim; hn.lt
  have hSc : s5.heap.objs.size ≠ cStatics := Nat.ne_of_gt hcl
  unfold collect
  refine wpAny_bind (wpAny_runValue (codeAny_builtin F.entry_proto_collect ?_))
  rw [Around.under_plainId F.plain_proto_collect _]
  show wpAny _ A.in1 (newList [] >>= fun l => again (.builtin "list.__iadd__" ⟨[l, .ref a], []⟩)) _ _ s5
  refine wpAny_bind (wpAny_newObj_type ?_)
  refine wpAny_pure ⟨plainId_quiet F.plain_list_iadd _, codeAny_builtin F.entry_list_iadd ?_⟩
  rw [Around.under_plainId F.plain_list_iadd _]
  have k1 : ∀ b o, s5.heap.get? b = some o → (s5.heap.push { cls := .type "list", data := .seq ([] : List Value).toArray }).get? b = some o := fun b o e => Heap.get?_push_of_some _ e
  have gty : ∀ {h : Heap}, (∀ b o, s5.heap.get? b = some o → h.get? b = some o) → h.IsGen a g := fun {h} q => hgen.keeps q
  show wpAny _ A.in1 (Builtin.List.listExtendWith (.ref s5.heap.objs.size) (.ref a) (.ref s5.heap.objs.size)) _ _ _
  unfold Builtin.List.listExtendWith
  refine wpAny_bind (wpAny_typeOf (Heap.IsGen.typeIs (s := { s5 with heap := _ }) (gty k1)) ?_)
  have h1 : Builtin.List.listSameRef (.ref s5.heap.objs.size) (.ref a) = false := by simp [Builtin.List.listSameRef, hSa]
  have h2 : (Value.type "generator" == Value.type "list") = false := by decide
  have h3 : (Value.type "generator" == Value.type "tuple") = false := by decide
  simp only [h1, h2, h3, Bool.or_false, Bool.false_eq_true, if_false]
  refine wpAny_bind (wpAny_pyIter_gen (s := { s5 with heap := _ }) (gty k1) ?_)
  refine wpAny_bind (wpAny_holding ?_)
  unfold Builtin.List.listLengthHint
  refine wpAny_bind (wpAny_specialOf (Heap.IsGen.typeIs (s := { s5 with heap := _ }) (gty k1)) F.gen_no_len ?_)
  show wpAny _ A.in1 (specialOf (Value.ref a) (Str.ofString "__length_hint__") >>= _) _ _ _
  refine wpAny_bind (wpAny_specialOf (Heap.IsGen.typeIs (s := { s5 with heap := _ }) (gty k1)) F.gen_no_hint ?_)
  refine wpAny_pure ?_
  show wpAny _ A.in1 (rule "list.extend.makes-room" >>= fun _ => Builtin.List.listTouch (.ref s5.heap.objs.size) >>= fun _ =>
    again (.builtin "list.extend.loop" ⟨[.ref s5.heap.objs.size, .ref a, .ref s5.heap.objs.size], []⟩)) _ _ _
  refine wpAny_bind (wpAny_rule ?_)
  have hS₁ : (s5.heap.push { cls := .type "list", data := .seq ([] : List Value).toArray }).get? s5.heap.objs.size = some { cls := .type "list", data := .seq ([] : List Value).toArray } := Heap.get?_push_size _ rfl
  refine wpAny_bind ?_
  show wpAny _ A.in1 (updateSeq s5.heap.objs.size (·.push .none) >>= fun _ => updateSeq s5.heap.objs.size (·.pop)) _ _ _
  refine wpAny_bind (wpAny_updateSeq hS₁ rfl ?_)
  have hS₂ := Heap.get?_update_self (Obj.mapSeq (·.push Value.none)) hS₁ rfl
  refine wpAny_updateSeq hS₂ rfl ?_
  have hS₃ := Heap.get?_update_self (Obj.mapSeq (·.pop)) hS₂ rfl
  have up : ∀ (h : Heap) (f : Obj → Obj), (∀ b o, s5.heap.get? b = some o → h.get? b = some o) → ∀ b o, s5.heap.get? b = some o → (h.update s5.heap.objs.size f).get? b = some o := fun h f q b o e =>
    (Heap.get?_update_other _ _ (Ne.symm (Nat.ne_of_lt (Heap.lt_size e)))).trans (q b o e)
  have k3 := up _ (Obj.mapSeq (·.pop)) (up _ (Obj.mapSeq (·.push Value.none)) k1)
  have r2 : Room k A.in1.in1 := ⟨hr.hd, by have := hr.dp; show A.depth + 3 * k + 5 < _; omega, by have := hr.un; show A.units + 1 + 1 + 16 * k + 200 < _; omega⟩
  refine wpAny_pure ⟨plainId_quiet F.plain_extend_loop _, gx_extend (A := A) (g := g) hr.hd (by have := hr.dp; omega) hSa hSc (fun s' acc c H' ys out q1 q2 q3 q4 q5 => ?_) sizeLine _ (wk A.in1 s5.heap.objs.size _ _ r2 hfr (Nat.le_refl _) k3 rfl rfl hS₃)⟩
  show wpAny _ A (load s5.heap.objs.size >>= _) _ _ s'
  refine wpAny_bind (wpAny_load q1 ?_)
  exact wpAny_pure (hQ s' acc.toList H' ys (I1.call' (ch := fp) out.os out.un out.hok out.bare hex) q3 q4 q5)
end
end Kk

set_option maxHeartbeats 1000000
namespace Kk
open PySem PySem.Spec PyProof.Rows L2 GenW
section
variable {X : Cx} {c P : Addr} {tg elt iter : Expr} {ifs : List Expr} {p pos gp : Pos} {scope : Scope} {wi : TI} {g : TG} {tt : TT} {te : TE} {k : Nat} {N' : List Str} {nt : Nat} {js : List Nat}
/-- what a generator expression asks -/
structure GxE (X : Cx) (k : Nat) (c P : Addr) (tg elt iter : Expr) (ifs : List Expr) (scope : Scope) (N' : List Str) (nt : Nat) (js : List Nat) (wi : TI) (g : TG) (tt : TT) (te : TE) : Prop where
  tab : GxR.TabB X.base X.mg c P
  code : X.env.code = .ref c
  gs : GxS X.env.scope scope
  gn : GxN X.N X.env.scope scope N' nt js
  it : PI X tg iter wi
  pg : ∀ (A : Around) (C : Addr) (cv : Value) (s : Shared) (H : Hp) (fp : List Addr) (pn : List (Addr × Obj)), Room k (A.deeper (geOf X scope C cv)) → PG (gxC X A (geOf X scope C cv) N' s H fp pn) tg g
  pt : ∀ (A : Around) (C : Addr) (cv : Value) (s : Shared) (H : Hp) (fp : List Addr) (pn : List (Addr × Obj)), Room k (A.deeper (geOf X scope C cv)) → PTs (gxC X A (geOf X scope C cv) N' s H fp pn) ifs tt
  pe : ∀ (A : Around) (C : Addr) (cv : Value) (s : Shared) (H : Hp) (fp : List Addr) (pn : List (Addr × Obj)), Room k (A.deeper (geOf X scope C cv)) → PE (gxC X A (geOf X scope C cv) N' s H fp pn) elt te
  fold : ∀ v, genFold iter X.env v = pure v
def tAllG (P : Addr) (wi : TI) (g : TG) (tt : TT) (te : TE) (nt : Nat) (js : List Nat) : TE := fun σ H Q => tGx P wi g tt te nt js σ H (fun _ H' => Q (.bl true) H') (ydAll fun H' => Q (.bl false) H')
def tAnyG (P : Addr) (wi : TI) (g : TG) (tt : TT) (te : TE) (nt : Nat) (js : List Nat) : TE := fun σ H Q => tGx P wi g tt te nt js σ H (fun _ H' => Q (.bl false) H') (ydAny fun H' => Q (.bl true) H')
def tTupG (P : Addr) (wi : TI) (g : TG) (tt : TT) (te : TE) (nt : Nat) (js : List Nat) : TE := fun σ H Q => tGx P wi g tt te nt js σ H (fun ys H' => ∀ T, H' T = none → Q (.ref T) (upd H' T (.tup ys))) ydOn
theorem pe_allG (E : GxE X k c P tg elt iter ifs scope N' nt js wi g tt te) (room : Room (k + 2) X.A) (hg : Gl X "all") (hm : X.mg "all" = none)
    (he : starEach [.GeneratorExp elt [⟨tg, iter, ifs, 0⟩] scope gp] X.env = (false, eval (.GeneratorExp elt [⟨tg, iter, ifs, 0⟩] scope gp) X.env) :: starEach [] X.env := by rfl) :
    PE X (.Call (.Name "all" p) [.GeneratorExp elt [⟨tg, iter, ifs, 0⟩] scope gp] [] pos) (tAllG P wi g tt te nt js) := by
  refine ⟨fun pins s σ H Q I want => ?_⟩
  have hb : bootBuiltins "all" = some (.builtin "all") := by decide +kernel
  refine wpAny_Call_Name_kw (ld_blt I hg hm hb ?_)
  refine PyProof.Rows.callWith_builtin1 ?_ he (by rfl)
  rw [he]
  show wpAny _ _ (spliced ((false, eval (.GeneratorExp elt [⟨tg, iter, ifs, 0⟩] scope gp) X.env) :: backTo pos (starEach [] X.env))) _ _ s
  refine Calls.spliced_cons (thn (gx_make (room.mono (by omega)) E.tab E.code E.gs E.gn E.it E.pg E.pt E.pe E.fold I want) fun u s5 hG => ?_)
  refine Calls.spliced_nil ?_
  obtain ⟨a, gi, cd, H1, sc, fp, rfl, I1, hex, h1, h2, hgen, hgs, hos, hba, hl, hkp, wake⟩ := hG
  refine call_function_tree F.kind_all F.plain_all F.entry_all (F.args_all1 _) ?_
  unfold Builtin.«all»
  refine wpAny_bind (m := oneArg "all" _) (wpAny_pure ?_)
  refine wpAny_bind (wpAny_pyIter_gen hgen ?_)
  have r2 : Room (k + 1) X.A.in1.in1 := ⟨room.hd, by have := room.dp; show X.A.depth + 3 * (k + 1) + 5 < _; omega, by have := room.un; show X.A.units + 1 + 1 + 16 * (k + 1) + 200 < _; omega⟩
  have K : Wk X.prog X.w X.stack fp H1 sc c0 (fun _ => fun H' => Q (.bl true) H') (ydAll fun H' => Q (.bl false) H') X.A.in1 a gi sizeLine s5 := ⟨hgen, hl, .fresh cd, hgs, rfl,
    wake X.A.in1.in1 c0 [] (s5.setGen gi .running) r2 I1.ok.frames (fun b hb => by cases hb) (fun b o e => e) rfl (fun q hq => by cases hq) hos (allBare_setGen hba rfl)⟩
  refine wpAny_pure ⟨plainId_quiet F.plain_all_loop _, gx_all (A := X.A) room.hd (by have := room.dp; omega) (fun s' H' out hq => ?_) (fun s' H' out hq => ?_) sizeLine s5 K⟩
  · exact ⟨.bl true, H', I1.call' (ch := fp) out.os out.un out.hok out.bare hex, rfl, hq⟩
  · exact ⟨.bl false, H', I1.call' (ch := fp) out.os out.un out.hok out.bare hex, rfl, hq⟩
theorem pe_anyG (E : GxE X k c P tg elt iter ifs scope N' nt js wi g tt te) (room : Room (k + 2) X.A) (hg : Gl X "any") (hm : X.mg "any" = none)
    (he : starEach [.GeneratorExp elt [⟨tg, iter, ifs, 0⟩] scope gp] X.env = (false, eval (.GeneratorExp elt [⟨tg, iter, ifs, 0⟩] scope gp) X.env) :: starEach [] X.env := by rfl) :
    PE X (.Call (.Name "any" p) [.GeneratorExp elt [⟨tg, iter, ifs, 0⟩] scope gp] [] pos) (tAnyG P wi g tt te nt js) := by
  refine ⟨fun pins s σ H Q I want => ?_⟩
  have hb : bootBuiltins "any" = some (.builtin "any") := by decide +kernel
  refine wpAny_Call_Name_kw (ld_blt I hg hm hb ?_)
  refine PyProof.Rows.callWith_builtin1 ?_ he (by rfl)
  rw [he]
  show wpAny _ _ (spliced ((false, eval (.GeneratorExp elt [⟨tg, iter, ifs, 0⟩] scope gp) X.env) :: backTo pos (starEach [] X.env))) _ _ s
  refine Calls.spliced_cons (thn (gx_make (room.mono (by omega)) E.tab E.code E.gs E.gn E.it E.pg E.pt E.pe E.fold I want) fun u s5 hG => ?_)
  refine Calls.spliced_nil ?_
  obtain ⟨a, gi, cd, H1, sc, fp, rfl, I1, hex, h1, h2, hgen, hgs, hos, hba, hl, hkp, wake⟩ := hG
  refine call_function_tree F.kind_any F.plain_any F.entry_any (F.args_any1 _) ?_
  unfold Builtin.«any»
  refine wpAny_bind (m := oneArg "any" _) (wpAny_pure ?_)
  refine wpAny_bind (wpAny_pyIter_gen hgen ?_)
  have r2 : Room (k + 1) X.A.in1.in1 := ⟨room.hd, by have := room.dp; show X.A.depth + 3 * (k + 1) + 5 < _; omega, by have := room.un; show X.A.units + 1 + 1 + 16 * (k + 1) + 200 < _; omega⟩
  have K : Wk X.prog X.w X.stack fp H1 sc c0 (fun _ => fun H' => Q (.bl false) H') (ydAny fun H' => Q (.bl true) H') X.A.in1 a gi sizeLine s5 := ⟨hgen, hl, .fresh cd, hgs, rfl,
    wake X.A.in1.in1 c0 [] (s5.setGen gi .running) r2 I1.ok.frames (fun b hb => by cases hb) (fun b o e => e) rfl (fun q hq => by cases hq) hos (allBare_setGen hba rfl)⟩
  refine wpAny_pure ⟨plainId_quiet F.plain_any_loop _, gx_any (A := X.A) room.hd (by have := room.dp; omega) (fun s' H' out hq => ?_) (fun s' H' out hq => ?_) sizeLine s5 K⟩
  · exact ⟨.bl true, H', I1.call' (ch := fp) out.os out.un out.hok out.bare hex, rfl, hq⟩
  · exact ⟨.bl false, H', I1.call' (ch := fp) out.os out.un out.hok out.bare hex, rfl, hq⟩
/-- tuple(g) of a made generator -/
theorem call_tupleG {pins : List (Addr × Obj)} {σ : L2.St} {s5 : Shared} {u : Value} {A : Around} {Q : List V → Hp → Prop} {Q' : Value → Shared → Prop} {E : Value → Shared → Prop} (hr : Room (k + 2) A) (hfr : A.frames = some X.stack) (h : GxMade X pins σ k Q ydOn u s5)
    (hQ : ∀ s' acc H' ys, Inv X pins σ H' s' → Vals ys acc → ys.length ≤ sizeLine → Q ys H' → Q' (.ref s'.heap.objs.size) { s' with heap := s'.heap.push { cls := .type "tuple", data := .seq acc.toArray } }) :
    wpAny (model X.prog X.w) A (call (.type "tuple") [u]) Q' E s5 := by
  obtain ⟨a, g0, hu, hgen⟩ : ∃ (a : Addr) (g : Nat), u = .ref a ∧ s5.heap.IsGen a g := by
    obtain ⟨a, g, _, _, _, _, e, _, _, _, _, q, _⟩ := h
    exact ⟨a, g, e, q⟩
  subst hu
  refine callType_codes (Q₁ := fun obj s₁ => s₁.TypeIs obj "tuple" ∧ Q' obj s₁) F.called_tuple (F.typeCall_tuple_1 _) F.entry_object_init ?_ fun obj s₁ h₁ => ?_
  · refine codeAny_of_tree ?_
    show wpAny _ A.in1.in1 (do checkBuiltinCall "tuple.__new__" ⟨[.type "tuple", .ref a], []⟩; again (.builtin "tuple.__new__" ⟨[.type "tuple", .ref a], []⟩)) _ _ s5
    refine wpAny_bind (wpAny_of_eq (F.newCall_tuple_1 _) (wpAny_pure ⟨plainId_quiet F.plain_tuple_new _, codeAny_builtin F.entry_tuple_new ?_⟩))
    rw [Around.under_plainId F.plain_tuple_new _]
    have hsub := sub_tuple_self
    have hinit := init_tuple_lookup
    have hmh := madeHere_tuple
    have hTI : s5.TypeIs (.ref a) "generator" := hgen.typeIs
    have r2 : Room (k + 1) A.in1.in1 := ⟨hr.hd, by have := hr.dp; show A.depth + 3 * (k + 1) + 5 < _; omega, by have := hr.un; show A.units + 1 + 1 + 16 * (k + 1) + 200 < _; omega⟩
    have q1 : ∀ {E' : Value → Shared → Prop} {Q2 : List Value → Shared → Prop}, (∀ s' acc H' ys, Inv X pins σ H' s' → Vals ys acc → ys.length ≤ sizeLine → Q ys H' → Q2 acc s') → wpAny (model X.prog X.w) A.in1.in1 (collect (.ref a)) Q2 E' s5 :=
      fun {E' Q2} hq => gx_collect (A := A.in1.in1) r2 hfr h hq
    wp_walk using wpAny_typeOf hTI, q1
    intro s' acc H' ys I' hv hle hq
    show wpAny _ _ (Builtin.Tuple.tupleExact acc.toArray >>= fun v => ret v) _ _ _
    unfold Builtin.Tuple.tupleExact
    refine wpAny_bind (wpAny_newObj_type ?_ (by show acc.toArray.size ≤ sizeLine; rw [List.size_toArray, ← hv.length]; exact hle))
    exact wpAny_pure ⟨⟨_, Heap.get?_push_size _ rfl, rfl⟩, hQ s' acc H' ys I' hv hle hq⟩
  · exact ⟨h₁.1, F.args_object_init_2 obj _, object_init_meets F.called_tuple.init.lookup F.called_tuple.made (by decide) X.prog X.w A.in1 _ s₁ ⟨h₁.1, rfl, h₁.2⟩⟩
theorem pe_tupG (E : GxE X k c P tg elt iter ifs scope N' nt js wi g tt te) (room : Room (k + 3) X.A) (hg : Gl X "tuple") (hm : X.mg "tuple" = none)
    (he : starEach [.GeneratorExp elt [⟨tg, iter, ifs, 0⟩] scope gp] X.env = (false, eval (.GeneratorExp elt [⟨tg, iter, ifs, 0⟩] scope gp) X.env) :: starEach [] X.env := by rfl) :
    PE X (.Call (.Name "tuple" p) [.GeneratorExp elt [⟨tg, iter, ifs, 0⟩] scope gp] [] pos) (tTupG P wi g tt te nt js) := by
  refine ⟨fun pins s σ H Q I want => ?_⟩
  have hb : bootBuiltins "tuple" = some (.type "tuple") := by decide +kernel
  refine wpAny_Call_Name_kw (ld_blt I hg hm hb ?_)
  refine PyProof.Rows.callWith_type1 ?_ he rfl
  rw [he]
  show wpAny _ _ (spliced ((false, eval (.GeneratorExp elt [⟨tg, iter, ifs, 0⟩] scope gp) X.env) :: backTo pos (starEach [] X.env))) _ _ s
  refine Calls.spliced_cons (thn (gx_make (room.mono (by omega)) E.tab E.code E.gs E.gn E.it E.pg E.pt E.pe E.fold I want) fun u s5 hG => ?_)
  refine Calls.spliced_nil ?_
  refine call_tupleG (X := X) (k := k + 1) (room.mono (by omega)) I.ok.frames hG fun s' acc H' ys I' hv hle hq => ?_
  refine ⟨.ref s'.heap.objs.size, upd H' s'.heap.objs.size (.tup ys), I'.laid (t' := s'.toks) (fun b o e => Heap.get?_push_of_some _ e) (Nat.le_refl _) ⟨hle, acc, hv, ?_⟩, rfl, hq _ (I'.hok.fresh (Nat.le_refl _))⟩
  exact ⟨_, Heap.get?_push_size _ rfl, rfl, _, rfl⟩
end
end Kk

namespace K48
open PySem PySem.Spec PyProof.Rows L2 Kk
/-! the text -/
def topS (i : Nat) : Stmt := PySem.Challenge.pw_wipeways_k48_codes_told.main.body.getD i (.Pass ⟨0, 0, 0, 0⟩)
abbrev sName : Stmt := topS 4
theorem scName : FnScope ["thing"] ["thing"] (defScope sName) := ⟨rfl, rfl, rfl, by decide +kernel, rfl, by decide +kernel, by decide +kernel⟩
/-! the mathematics -/
def abc : Str := Str.ofString "abcdefghijklmnopqrstuvwxyz"
def tongS : List Str := ["take", "ask", "number", "copy", "mix", "open", "tell", "wipe", "clear", "drop", "choose", "loop", "out", "risk", "fault", "call", "back", "def", "main"].map Str.ofString
def tongV : List V := tongS.map V.str
def allAbc (a : Str) : Bool := a.cps.toList.all fun c => decide (c ∈ abc.cps.toList)
def nameB (a : Str) : Bool := !inV (.str a) tongV && (decide ((1 : Int) ≤ (a.length : Int)) && decide ((a.length : Int) ≤ 8)) && allAbc a
/-- what the module has at its names -/
structure Mg (K : PySem.W.Frag) (mg : Str → Option Value) (tA : Addr) : Prop where
  isinstance : mg "isinstance" = none
  str : mg "str" = none
  len : mg "len" = none
  all : mg "all" = none
  tongue : mg "TONGUE" = some (.ref tA)
  tongueT : ∀ H, SqT K H tA tongV
  most : ∃ t, mg "MOST_LETTERS" = some (.int 8 t)
  letters : ∃ t, mg "LETTERS" = some (.str abc t)
section
variable {P : Program} {w : World} {K : PySem.W.Frag} {mg : Str → Option Value} {base : Heap}

/-- a thing that is no text -/
def NoStr (K : PySem.W.Frag) (H : Hp) (v : V) : Prop := ∃ t : String, TyX K H v (.type t) ∧ kitB t "str" = some false
def spName (K : PySem.W.Frag) (T : Addr) : Sp := fun vs H Q _ => ∃ v, vs = [v] ∧ GxR.TabG H T ∧
  ((∃ a : Str, v = .str a ∧ a.length ≤ 1000 ∧ ∀ H', Ex [] H H' → Q (.bl (nameB a)) H') ∨ (NoStr K H v ∧ Q (.bl false) H))
theorem len_line {a : Str} (h : a.length ≤ 1000) : a.length ≤ sizeLine := Nat.le_trans h (by decide)
theorem flat_tong : tongV.all flatV = true := by decide +kernel
theorem name_split (a : Str) (h1 : inV (.str a) tongV = false) : nameB a = (decide ((1 : Int) ≤ (a.length : Int)) && decide ((a.length : Int) ≤ 8) && allAbc a) := by
  unfold nameB; rw [h1]; rfl

theorem ok_name {f c T tA : Addr} {k : Nat} {oc : Value} {od an : Option Addr} {osl : Array (Option Value)} {kV doc pm ct : Value}
    (lk : K.lookup f = some ⟨oc, od, .func (PySem.W.fnOf "is_name" "is_name" (defArgs sName) (defBody sName) (defScope sName) .none kV doc pm an (.ref c) ct), osl⟩) (hc : PySem.W.codeIn K (.ref c) "is_name" = true)
    (tab : GxR.TabB base mg c T) (M : Mg K mg tA) (gls : base.Ns mainGlobals mg) :
    FnOk P w K mg base CX0 (k + 1) f (PySem.W.fnOf "is_name" "is_name" (defArgs sName) (defBody sName) (defScope sName) .none kV doc pm an (.ref c) ct) ["thing"] (spName K T) := by
  obtain ⟨tm, gm⟩ := M.most
  obtain ⟨tl, gl⟩ := M.letters
  refine okC lk hc scName (fun vs H Q E h => ?_) (fun A outer s H vs Q E hr h => ?_)
  · obtain ⟨v, rfl, _⟩ := h; rfl
  · obtain ⟨v, rfl, hT, h⟩ := h
    refine ⟨_, pss_cons (ps_if (PW.pt (pw_or (pt_not (pt_val (pe_callB call_isi (by rfl) M.isinstance (by decide +kernel) (pa_cons (pv 0) (pa_cons (pe_bltn (v := .ty "str") (by rfl) M.str (by decide +kernel) rfl) pa_nil)))))
        (pw_or1 (pt_cmpR op_in_seq (pv 0) (pe_glob (v := .ref tA) rfl M.tongue rfl) rfl)))) (pss_one (ps_ret pe_bl)) pss_nil)
      (pss_one (ps_ret (pe_and (pe_chain op_le op_le pe_int (pe_callB call_len_str (by rfl) M.len PySem.boot_len (pa_cons (pv 0) pa_nil)) (pe_glob (v := .int 8) rfl gm ⟨_, rfl⟩))
        (pe_one (pe_allB hr (by rfl) M.all tab rfl ⟨rfl, rfl, by decide +kernel, rfl, rfl, fun y hy e => absurd e ((by decide +kernel : ∀ y ∈ [(Str.ofString ".0", NameKind.local), (Str.ofString "sign", NameKind.local), (Str.ofString "LETTERS", NameKind.globalImplicit)], y.2 ≠ NameKind.free) y hy)⟩ (pv 0) (elt_in gls rfl rfl rfl gl) (fun _ => rfl)))))), ?_⟩
    rcases h with ⟨a, rfl, ha, q⟩ | ⟨⟨t, ht, hk⟩, q⟩
    · refine ⟨.str a, rfl, .str a, .ty "str", .type "str", .type "str", true, rfl, .ty "str", .base (.str a), kit_ty (by decide +kernel), true, rfl, iteF ?_⟩
      refine ⟨.str a, rfl, tA, tongV, rfl, .inr (M.tongueT _), rfl, flat_tong, _, rfl, ite2 (fun e => ?_) (fun e => ?_)⟩
      · have e2 : inV (.str a) tongV = true := e
        have e3 : nameB a = false := by unfold nameB; rw [e2]; rfl
        have q2 := q H .refl
        rw [e3] at q2; exact q2
      · have e2 : inV (.str a) tongV = false := by cases z : inV (.str a) tongV with | false => rfl | true => exact absurd z e
        refine ⟨.str a, rfl, a, rfl, len_line ha, 1, (a.length : Int), rfl, rfl, _, rfl, ite2 (fun e4 => ?_) (fun e4 => ?_)⟩
        · refine ⟨_, 8, rfl, rfl, _, rfl, ite2 (fun e5 => ?_) (fun e5 => ?_)⟩
          · refine ⟨.str a, rfl, a, rfl, hT, fun H2 hH => ?_⟩
            have q2 := q H2 (.tabbed hT hH)
            rw [name_split a e2, e4, e5] at q2
            exact q2
          · have q2 := q H .refl
            have e6 : decide ((a.length : Int) ≤ 8) = false := by cases z : decide ((a.length : Int) ≤ 8) with | false => rfl | true => exact absurd z e5
            rw [name_split a e2, e6, Bool.and_false, Bool.false_and] at q2
            exact q2
        · have q2 := q H .refl
          have e6 : decide ((1 : Int) ≤ (a.length : Int)) = false := by cases z : decide ((1 : Int) ≤ (a.length : Int)) with | false => rfl | true => exact absurd z e4
          rw [name_split a e2, e6, Bool.false_and, Bool.false_and] at q2
          exact ⟨false, rfl, iteF q2⟩
    · refine ⟨v, rfl, v, .ty "str", .type t, .type "str", false, rfl, .ty "str", ht, kit_ty hk, false, rfl, iteT (iteT q)⟩
end
end K48

namespace K48
open PySem PySem.Spec PyProof.Rows L2 Kk
abbrev s_is_whole : Stmt := topS 10
theorem sc_is_whole : FnScope ["thing"] ["thing"] (defScope s_is_whole) := ⟨rfl, rfl, rfl, by decide +kernel, rfl, by decide +kernel, by decide +kernel⟩
/-! anything, as data -/
section
variable {K : PySem.W.Frag} {H H' : Hp}
mutual
theorem dp_ex (e : Ex [] H H') : ∀ {v : V} {d : PyData}, Dp K H v d → Dp K H' v d
  | _, _, .non => .non
  | _, _, .bl b => .bl b
  | _, _, .int i => .int i
  | _, _, .str x => .str x
  | _, _, .lst h r => .lst (e.seqL h) (dpAll_ex e r)
  | _, _, .tup h r => .tup (e.seqT h) (dpAll_ex e r)
theorem dpAll_ex (e : Ex [] H H') : ∀ {vs : List V} {ds : List PyData}, DpAll K H vs ds → DpAll K H' vs ds
  | _, _, .nil => .nil
  | _, _, .cons h r => .cons (dp_ex e h) (dpAll_ex e r)
end
def tyN : PyData → String
  | .none => "NoneType"
  | .bool _ => "bool"
  | .int _ => "int"
  | .str _ => "str"
  | .list _ => "list"
  | .tuple _ => "tuple"
  | .dict _ => "dict"
theorem dp_ty {v : V} {d : PyData} (h : Dp K H v d) : TyX K H v (.type (tyN d)) := by
  cases h with
  | non => exact .base .non
  | bl b => exact .base (.bl b)
  | int i => exact .base (.int i)
  | str x => exact .base (.str x)
  | lst h r =>
    rcases h with (h | ⟨o, h⟩) | ⟨o, its, n, h1, h2, _⟩
    · exact .base (.lst h)
    · exact .base (.frz h)
    · exact .kList h1 h2
  | tup h r =>
    rcases h with (h | ⟨o, h⟩) | ⟨o, its, n, h1, h2, _⟩
    · exact .base (.tup h)
    · exact .fTuple h
    · exact .kTuple h1 h2
theorem rd_isi {v : V} {d : PyData} {nm : String} {b : Bool} {Q : VK} (h : Dp K H v d) (k : kitB (tyN d) nm = some b) (q : Q (.bl b) H) : rIsi K [v, .ty nm] H Q :=
  ⟨v, .ty nm, _, _, b, rfl, .ty nm, dp_ty h, kit_ty k, q⟩
theorem dpAll_len {vs : List V} {ds : List PyData} (h : DpAll K H vs ds) : vs.length = ds.length := by
  induction vs generalizing ds with
  | nil => cases h; rfl
  | cons v vs ih => cases h with | cons a b => rw [List.length_cons, List.length_cons, ih b]
theorem dpAll_get {vs : List V} {ds : List PyData} (h : DpAll K H vs ds) : ∀ {i : Nat} {v : V}, vs[i]? = some v → ∃ d, ds[i]? = some d ∧ Dp K H v d := by
  induction vs generalizing ds with
  | nil => intro i v e; simp at e
  | cons v0 vs ih =>
    cases h with
    | cons a b =>
      intro i v e
      cases i with
      | zero => cases e; exact ⟨_, rfl, a⟩
      | succ i => exact ih b (i := i) (by simpa using e)
end
/-! the decisions -/
def intD : PyData → Bool
  | .int _ => true
  | .bool _ => true
  | _ => false
def blD : PyData → Bool
  | .bool _ => true
  | _ => false
def tupD : PyData → Bool
  | .tuple _ => true
  | _ => false
def strD : PyData → Bool
  | .str _ => true
  | _ => false
def wholeD : PyData → Bool
  | .int _ => true
  | _ => false
def nameD : PyData → Bool
  | .str a => nameB a
  | _ => false
theorem kit_int (d : PyData) : kitB (tyN d) "int" = some (intD d) := by
  cases d with
  | none => exact (by decide +kernel : kitB "NoneType" "int" = some false)
  | bool b => exact (by decide +kernel : kitB "bool" "int" = some true)
  | int i => exact (by decide +kernel : kitB "int" "int" = some true)
  | str a => exact (by decide +kernel : kitB "str" "int" = some false)
  | list ds => exact (by decide +kernel : kitB "list" "int" = some false)
  | tuple ds => exact (by decide +kernel : kitB "tuple" "int" = some false)
  | dict kvs => exact (by decide +kernel : kitB "dict" "int" = some false)
theorem kit_bool (d : PyData) : kitB (tyN d) "bool" = some (blD d) := by
  cases d with
  | none => exact (by decide +kernel : kitB "NoneType" "bool" = some false)
  | bool b => exact (by decide +kernel : kitB "bool" "bool" = some true)
  | int i => exact (by decide +kernel : kitB "int" "bool" = some false)
  | str a => exact (by decide +kernel : kitB "str" "bool" = some false)
  | list ds => exact (by decide +kernel : kitB "list" "bool" = some false)
  | tuple ds => exact (by decide +kernel : kitB "tuple" "bool" = some false)
  | dict kvs => exact (by decide +kernel : kitB "dict" "bool" = some false)
theorem kit_tup (d : PyData) : kitB (tyN d) "tuple" = some (tupD d) := by
  cases d with
  | none => exact (by decide +kernel : kitB "NoneType" "tuple" = some false)
  | bool b => exact (by decide +kernel : kitB "bool" "tuple" = some false)
  | int i => exact (by decide +kernel : kitB "int" "tuple" = some false)
  | str a => exact (by decide +kernel : kitB "str" "tuple" = some false)
  | list ds => exact (by decide +kernel : kitB "list" "tuple" = some false)
  | tuple ds => exact (by decide +kernel : kitB "tuple" "tuple" = some true)
  | dict kvs => exact (by decide +kernel : kitB "dict" "tuple" = some false)
theorem kit_str (d : PyData) : kitB (tyN d) "str" = some (strD d) := by
  cases d with
  | none => exact (by decide +kernel : kitB "NoneType" "str" = some false)
  | bool b => exact (by decide +kernel : kitB "bool" "str" = some false)
  | int i => exact (by decide +kernel : kitB "int" "str" = some false)
  | str a => exact (by decide +kernel : kitB "str" "str" = some true)
  | list ds => exact (by decide +kernel : kitB "list" "str" = some false)
  | tuple ds => exact (by decide +kernel : kitB "tuple" "str" = some false)
  | dict kvs => exact (by decide +kernel : kitB "dict" "str" = some false)
theorem noStr {K : PySem.W.Frag} {H : Hp} {v : V} {d : PyData} (h : Dp K H v d) (n : ∀ a, d ≠ .str a) : NoStr K H v := by
  refine ⟨tyN d, dp_ty h, ?_⟩
  rw [kit_str]
  cases d <;> first | rfl | exact absurd rfl (n _)
/-- bounds: texts and sizes, everywhere in it -/
inductive Dk : PyData → Prop
  | non : Dk .none
  | bl (b : Bool) : Dk (.bool b)
  | int (i : Int) : Dk (.int i)
  | str {x : Str} : x.length ≤ 1000 → Dk (.str x)
  | lst {ds : List PyData} : Dk (.list ds)
  | tup {ds : List PyData} : ds.length < 2000 → (∀ d ∈ ds, Dk d) → Dk (.tuple ds)
section
variable {P : Program} {w : World} {K : PySem.W.Frag} {mg : Str → Option Value} {base : Heap}
def spWhole (K : PySem.W.Frag) : Sp := fun vs H Q _ => ∃ v d, vs = [v] ∧ Dp K H v d ∧ Q (.bl (wholeD d)) H
theorem ok_is_whole {f : Addr} {fd : FuncData} {k : Nat} (F : Fun K "is_whole" "is_whole" s_is_whole f fd) (m_isinstance : mg "isinstance" = none) (m_int : mg "int" = none) (m_bool : mg "bool" = none) : FnOk P w K mg base CX0 (k + 1) f fd ["thing"] (spWhole K) := by
  refine F.ok sc_is_whole (fun vs H Q E h => ?_) (fun cdv A outer s H vs Q E hr h => ?_)
  · obtain ⟨v, d, rfl, _⟩ := h; rfl
  · obtain ⟨v, d, rfl, hd, q⟩ := h
    refine ⟨_, (pss_one (ps_ret (pe_and (pe_callB call_isi (by rfl) m_isinstance (by decide +kernel) (pa_cons (pv 0) (pa_cons (pe_bltn (v := .ty "int") (by rfl) m_int (by decide +kernel) rfl) pa_nil))) (pe_one (pe_not (pe_callB call_isi (by rfl) m_isinstance (by decide +kernel) (pa_cons (pv 0) (pa_cons (pe_bltn (v := .ty "bool") (by rfl) m_bool (by decide +kernel) rfl) pa_nil)))))))), ?_⟩
    refine ⟨v, rfl, v, .ty "int", .type (tyN d), .type "int", intD d, rfl, .ty "int", dp_ty hd, kit_ty (kit_int d), _, rfl, ite2 (fun e => ?_) fun e => ?_⟩
    · refine ⟨v, rfl, v, .ty "bool", .type (tyN d), .type "bool", blD d, rfl, .ty "bool", dp_ty hd, kit_ty (kit_bool d), _, rfl, ?_⟩
      have e2 : (!blD d) = wholeD d := by cases d <;> first | rfl | cases e
      rw [e2]; exact q
    · have e2 : wholeD d = false := by cases d <;> first | rfl | exact absurd rfl e
      rw [e2] at q; exact q
/-- is_box and is_name of data: behind the table -/
theorem name_or {H : Hp} {v : V} {d : PyData} {Q : VK} (h : Dp K H v d) (k : Dk d) (q : ∀ H', Ex [] H H' → Q (.bl (nameD d)) H') :
    (∃ a : Str, v = .str a ∧ a.length ≤ 1000 ∧ ∀ H', Ex [] H H' → Q (.bl (nameB a)) H') ∨ (NoStr K H v ∧ Q (.bl false) H) := by
  by_cases z : ∃ a, d = .str a
  · obtain ⟨a, rfl⟩ := z
    cases h; cases k
    exact .inl ⟨a, rfl, by assumption, q⟩
  · refine .inr ⟨noStr h fun a e => z ⟨a, e⟩, ?_⟩
    have e : nameD d = false := by cases d <;> first | rfl | exact absurd ⟨_, rfl⟩ z
    have := q H .refl
    rw [e] at this; exact this
/-- of data -/
def spNameD (K : PySem.W.Frag) (T : Addr) : Sp := fun vs H Q _ => ∃ v d, vs = [v] ∧ Dp K H v d ∧ Dk d ∧ GxR.TabG H T ∧ ∀ H', Ex [] H H' → Q (.bl (nameD d)) H'
theorem fn_imp {X : CXT} {k : Nat} {f : Addr} {fd : FuncData} {ps : List Str} {sp sp' : Sp} (F : FnOk P w K mg base X k f fd ps sp) (i : ∀ vs H Q E, sp' vs H Q E → sp vs H Q E) : FnOk P w K mg base X k f fd ps sp' :=
  ⟨fun vs H Q E h => F.len vs H Q E (i vs H Q E h), fun A outer s H args us vs Q E r e b v h => F.run A outer s H args us vs Q E r e b v (i vs H Q E h)⟩
theorem name_data {T f : Addr} {fd : FuncData} {k : Nat} (F : FnOk P w K mg base CX0 k f fd ["thing"] (spName K T)) : FnOk P w K mg base CX0 k f fd ["thing"] (spNameD K T) :=
  fn_imp F fun vs H Q E h => by
    obtain ⟨v, d, rfl, h1, h2, h3, h4⟩ := h
    exact ⟨v, rfl, h3, name_or h1 h2 h4⟩
end
end K48

namespace K48
open PySem PySem.Spec PyProof.Rows L2 Kk
abbrev s_part : Stmt := topS 20
theorem sc_part : FnScope ["kind", "part", "hands"] ["kind", "part", "hands"] (defScope s_part) := ⟨rfl, rfl, rfl, by decide +kernel, rfl, by decide +kernel, by decide +kernel⟩
def belowD (e : Int) : PyData → Bool
  | .int n => decide (0 ≤ n) && decide (n < e)
  | _ => false
def partD (h : Int) (k : Str) (d : PyData) : Bool :=
  if k = Str.ofString "name" then nameD d else if k = Str.ofString "hand" then belowD h d else if k = Str.ofString "slot" then belowD 60 d else belowD 10000 d
theorem below_int (e n : Int) : belowD e (.int n) = (decide (0 ≤ n) && decide (n < e)) := rfl
theorem whole_int {d : PyData} (h : wholeD d = true) : ∃ i, d = .int i := by cases d <;> first | exact ⟨_, rfl⟩ | cases h
theorem below_no {d : PyData} {e : Int} (h : ¬ wholeD d = true) : belowD e d = false ∧ wholeD d = false := by
  cases d <;> first | exact ⟨rfl, rfl⟩ | exact absurd rfl h
section
variable {P : Program} {w : World} {K : PySem.W.Frag} {mg : Str → Option Value} {base : Heap}
def spPart (K : PySem.W.Frag) (T : Addr) : Sp := fun vs H Q _ => ∃ (k : Str) (v : V) (d : PyData) (h : Int), vs = [.str k, v, .int h] ∧ Dp K H v d ∧ Dk d ∧ GxR.TabG H T ∧ ∀ H', Ex [] H H' → Q (.bl (partD h k d)) H'
theorem ok_part {f T f1 f2 : Addr} {fd d1 d2 : FuncData} {k : Nat} (F : Fun K "part_is_right" "part_is_right" s_part f fd) (C_is_name : Cl P w K mg base k "is_name" ["thing"] (spNameD K T) f1 d1) (C_is_whole : Cl P w K mg base k "is_whole" ["thing"] (spWhole K) f2 d2)
    (g_MS : ∃ t, mg "MOST_SLOTS" = some (.int 60 t)) (g_MN : ∃ t, mg "MOST_NUMBER" = some (.int 9999 t)) : FnOk P w K mg base CX0 (k + 1) f fd ["kind", "part", "hands"] (spPart K T) := by
  obtain ⟨t1, g1⟩ := g_MS
  obtain ⟨t2, g2⟩ := g_MN
  refine F.ok sc_part (fun vs H Q E h => ?_) (fun cdv A outer s H vs Q E hr h => ?_)
  · obtain ⟨k, v, d, h, rfl, _⟩ := h; rfl
  · obtain ⟨kd, v, d, hh, rfl, hd, dk, hT, q⟩ := h
    refine ⟨_, (pss_cons (ps_if (pt_cmpR op_eq (pv 0) pe_str (nomark _)) (pss_one (ps_ret (pe_call C_is_name.g hr (by rfl) C_is_name.m C_is_name.k C_is_name.b .nil pass0 (pa_cons (pv 1) pa_nil)))) pss_nil)
      (pss_cons (ps_if (pt_cmpR op_eq (pv 0) pe_str (nomark _)) (pss_one (ps_ret (pe_and (pe_call C_is_whole.g hr (by rfl) C_is_whole.m C_is_whole.k C_is_whole.b .nil pass0 (pa_cons (pv 1) pa_nil)) (pe_one (pe_chain op_le op_lt pe_int (pv 1) (pv 2)))))) pss_nil)
      (pss_cons (ps_if (pt_cmpR op_eq (pv 0) pe_str (nomark _)) (pss_one (ps_ret (pe_and (pe_call C_is_whole.g hr (by rfl) C_is_whole.m C_is_whole.k C_is_whole.b .nil pass0 (pa_cons (pv 1) pa_nil)) (pe_one (pe_chain op_le op_lt pe_int (pv 1) (pe_glob (v := .int 60) rfl g1 ⟨_, rfl⟩)))))) pss_nil)
      (pss_one (ps_ret (pe_and (pe_call C_is_whole.g hr (by rfl) C_is_whole.m C_is_whole.k C_is_whole.b .nil pass0 (pa_cons (pv 1) pa_nil)) (pe_one (pe_chain op_le op_le pe_int (pv 1) (pe_glob (v := .int 9999) rfl g2 ⟨_, rfl⟩))))))))), ?_⟩
    have q0 := q H .refl
    unfold partD at q q0
    refine ⟨.str kd, rfl, rfl, _, rfl, ite2 (fun k1 => ?_) fun k1 => ?_⟩
    · have z1 : kd = Str.ofString "name" := V.str.inj (of_decide_eq_true k1)
      rw [if_pos z1] at q
      exact ⟨v, rfl, v, d, rfl, hd, dk, hT, q⟩
    have n1 : ¬ kd = Str.ofString "name" := fun z => k1 (decide_eq_true (by rw [z]))
    rw [if_neg n1] at q0
    refine ⟨.str kd, rfl, rfl, _, rfl, ite2 (fun k2 => ?_) fun k2 => ?_⟩
    · have z1 : kd = Str.ofString "hand" := V.str.inj (of_decide_eq_true k2)
      rw [if_pos z1] at q0
      refine ⟨v, rfl, v, d, rfl, hd, _, rfl, ite2 (fun c => ?_) fun c => ?_⟩
      · obtain ⟨n, rfl⟩ := whole_int c
        cases hd
        refine ⟨.int n, rfl, 0, n, rfl, rfl, _, rfl, ite2 (fun b => ⟨.int hh, rfl, n, hh, rfl, rfl, ?_⟩) fun b => ?_⟩
        · rw [below_int] at q0
          rw [b, Bool.true_and] at q0; exact q0
        · have b2 : decide (0 ≤ n) = false := by cases z : decide (0 ≤ n) with | false => rfl | true => exact absurd z b
          rw [below_int] at q0
          rw [b2, Bool.false_and] at q0; exact q0
      · obtain ⟨e1, e2⟩ := below_no (e := hh) c
        rw [e1] at q0; first | exact q0 | (rw [e2]; exact q0)
    have n2 : ¬ kd = Str.ofString "hand" := fun z => k2 (decide_eq_true (by rw [z]))
    rw [if_neg n2] at q0
    refine ⟨.str kd, rfl, rfl, _, rfl, ite2 (fun k3 => ?_) fun k3 => ?_⟩
    · have z1 : kd = Str.ofString "slot" := V.str.inj (of_decide_eq_true k3)
      rw [if_pos z1] at q0
      refine ⟨v, rfl, v, d, rfl, hd, _, rfl, ite2 (fun c => ?_) fun c => ?_⟩
      · obtain ⟨n, rfl⟩ := whole_int c
        cases hd
        refine ⟨.int n, rfl, 0, n, rfl, rfl, _, rfl, ite2 (fun b => ⟨n, 60, rfl, rfl, ?_⟩) fun b => ?_⟩
        · rw [below_int] at q0
          rw [b, Bool.true_and] at q0; exact q0
        · have b2 : decide (0 ≤ n) = false := by cases z : decide (0 ≤ n) with | false => rfl | true => exact absurd z b
          rw [below_int] at q0
          rw [b2, Bool.false_and] at q0; exact q0
      · obtain ⟨e1, e2⟩ := below_no (e := 60) c
        rw [e1] at q0; first | exact q0 | (rw [e2]; exact q0)
    have n3 : ¬ kd = Str.ofString "slot" := fun z => k3 (decide_eq_true (by rw [z]))
    rw [if_neg n3] at q0
    refine ⟨v, rfl, v, d, rfl, hd, _, rfl, ite2 (fun c => ?_) fun c => ?_⟩
    · obtain ⟨n, rfl⟩ := whole_int c
      cases hd
      refine ⟨.int n, rfl, 0, n, rfl, rfl, _, rfl, ite2 (fun b => ⟨n, 9999, rfl, rfl, ?_⟩) fun b => ?_⟩
      · rw [below_int] at q0
        have e9 : decide (n < 10000) = decide (n ≤ 9999) := by rw [decide_eq_decide]; omega
        rw [b, Bool.true_and, e9] at q0; exact q0
      · have b2 : decide (0 ≤ n) = false := by cases z : decide (0 ≤ n) with | false => rfl | true => exact absurd z b
        rw [below_int] at q0
        rw [b2, Bool.false_and] at q0; exact q0
    · obtain ⟨e1, e2⟩ := below_no (e := 10000) c
      rw [e1] at q0; first | exact q0 | (rw [e2]; exact q0)
end
end K48

namespace K48
open PySem PySem.Spec PyProof.Rows L2 Kk RZ
theorem pg_tupK {X : Cx} {K : PySem.W.Frag} {es : List Expr} {k : Nat} {t : TGs} {n : Nat} {pos : Pos} (hK : X.K = K) (hc : X.calm = true) (h : PGs X es t) (hn : (assignEach es X.env).length = n := by rfl) (hst : (assignEach es X.env).findIdx? (·.1) = none := by rfl) :
    PG X (.Tuple es k pos) (gTup K n t) := by subst hK; exact pg_tup hc h hn hst
abbrev gPair (K : PySem.W.Frag) (i j : Nat) : TG := gTup K 2 (gCons (gName i) (gCons (gName j) gNil))
theorem cut_one {x : V} {xs : List V} : cutV (x :: xs) (some 1) none = xs := by
  unfold cutV
  have e1 : HT.sIx (x :: xs).length 0 (some 1) = 1 := by
    show (if (1 : Int) < 0 then ((1 : Int) + ((x :: xs).length : Int)).toNat else min (1 : Int).toNat (x :: xs).length) = 1
    rw [if_neg (by decide), List.length_cons]; show min 1 (xs.length + 1) = 1; omega
  rw [e1, HT.sIx_none]
  show xs.take ((x :: xs).length - 1) = xs
  rw [List.length_cons, Nat.add_sub_cancel, List.take_length]
theorem one_cut {x : V} {xs : List V} : ¬ (HT.sIx (x :: xs).length 0 (some 1) = 0 ∧ HT.sIx (x :: xs).length (x :: xs).length none = (x :: xs).length) := fun ⟨h, _⟩ => by
  have e1 : HT.sIx (x :: xs).length 0 (some 1) = 1 := by
    show (if (1 : Int) < 0 then ((1 : Int) + ((x :: xs).length : Int)).toNat else min (1 : Int).toNat (x :: xs).length) = 1
    rw [if_neg (by decide), List.length_cons]; show min 1 (xs.length + 1) = 1; omega
  rw [e1] at h; cases h
theorem walk_zipT {K : PySem.W.Frag} {a b : Addr} {xs ys : List V} {n : Nat} (hn : n = min xs.length ys.length) : Walk (ItzT K a b) n (fun H => SqT K H a xs ∧ SqT K H b ys) (YPair (fun i => xs[i]?) (fun i => ys[i]?)) := by
  subst hn
  refine ⟨fun i _ hi q => ?_, fun _ q => ⟨xs, ys, q.1, q.2, by omega⟩, fun i H v H' _ q y => ?_⟩
  · have h1 : i < xs.length := by omega
    have h2 : i < ys.length := by omega
    exact ⟨xs, ys, xs[i], ys[i], q.1, q.2, by simp [h1], by simp [h2]⟩
  · obtain ⟨T, x, z, h1, h2, h3, h4, h5⟩ := y
    exact ⟨T, x, z, h1, h2, h3, h4 xs q.1, h5 ys q.2⟩
def formT : List (Str × List Str) := [("take", ["hand", "name"]), ("ask", ["hand"]), ("number", ["hand", "number"]), ("copy", ["hand", "hand"]), ("mix", ["hand", "hand", "hand"]), ("open", ["hand", "hand"]), ("tell", ["hand"]), ("wipe", ["hand"]), ("lay", ["slot", "hand"]), ("fetch", ["hand", "slot"]), ("clean", ["slot"])].map fun p => (Str.ofString p.1, p.2.map Str.ofString)
def frm? (k : Str) : Option (List Str) := (formT.find? fun p => p.1 == k).map (·.2)
/-- where the forms stand: a dict of the written part -/
structure Fk (K : PySem.W.Frag) (w : World) (mg : Str → Option Value) (fA : Addr) (es : Array DictEntry) (n : Nat) : Prop where
  m : mg "ORDERS" = some (.ref fA)
  d : KDict K w fA es n
  at_ : ∀ z ks, frm? z = some ks → ∃ t, PySem.W.nsIn K fA z = some (some (.ref t)) ∧ KDct K w fA z (.ref t) ∧ ∀ H, SqT K H t (ks.map V.str)
  no : ∀ z, frm? z = none → PySem.W.nsIn K fA z = some none
def formD (hh : Int) : PyData → Bool
  | .tuple (.str k :: ps) => match frm? k with
    | some ks => decide (ps.length = ks.length) && (ks.zip ps).all fun q => partD hh q.1 q.2
    | none => false
  | _ => false
theorem frm_len {k : Str} {ks : List Str} (h : frm? k = some ks) : ks.length ≤ 3 := by
  unfold frm? at h
  cases e : formT.find? (fun p => p.1 == k) with
  | none => rw [e] at h; cases h
  | some p =>
    rw [e] at h; cases h
    exact (by decide +kernel : ∀ p ∈ formT, p.2.length ≤ 3) p (List.mem_of_find?_eq_some e)
theorem at0 {α : Type} {x : α} {xs : List α} : atI (x :: xs) 0 = some x := atI_nat (j := 0) rfl
theorem nd_kp : (["kind", "part", "hands"] : List Str).Nodup := by decide +kernel
abbrev s_form : Stmt := topS 21
theorem sc_form : FnScope ["hands", "thing", "kinds"] ["hands", "thing"] (defScope s_form) := ⟨rfl, rfl, rfl, by decide +kernel, rfl, by decide +kernel, by decide +kernel⟩
abbrev scG_form : Scope := ⟨.function, [(Str.ofString ".0", .local), (Str.ofString "kind", .local), (Str.ofString "part", .local), (Str.ofString "hands", .free), (Str.ofString "part_is_right", .globalImplicit)], true, false, []⟩
theorem gxn_form : GxN ["hands", "thing", "kinds"] (defScope s_form) scG_form ["kind", "part", "hands"] 2 [0] := ⟨rfl, fun i j h => by
  match i, h with
  | 0, h => cases h; exact ⟨"hands", rfl, rfl, by decide +kernel, .inl (by decide +kernel)⟩
  | i + 1, h => simp at h⟩
theorem gxs_form : GxS (defScope s_form) scG_form := ⟨rfl, rfl, by decide +kernel, by decide +kernel, by decide +kernel⟩
section
variable {P : Program} {w : World} {K : PySem.W.Frag} {mg : Str → Option Value} {base : Heap}
def spForm (K : PySem.W.Frag) (T T3 : Addr) : Sp := fun vs H Q _ => ∃ (hh : Int) (v : V) (d : PyData), vs = [.int hh, v] ∧ Dp K H v d ∧ Dk d ∧ GxR.TabG H T ∧ GxR.TabG H T3 ∧ ∀ H', Ex [] H H' → Q (.bl (formD hh d)) H'
theorem ok_form {f c T T3 fA f1 : Addr} {d1 : FuncData} {es : Array DictEntry} {n k : Nat} {oc : Value} {od an : Option Addr} {osl : Array (Option Value)} {kV doc pm ct : Value}
    (lk : K.lookup f = some ⟨oc, od, .func (PySem.W.fnOf "is_order" "is_order" (defArgs s_form) (defBody s_form) (defScope s_form) .none kV doc pm an (.ref c) ct), osl⟩) (hc : PySem.W.codeIn K (.ref c) "is_order" = true)
    (tab : GxR.TabB base mg c T3) (C_part : Cl P w K mg base k "part_is_right" ["kind", "part", "hands"] (spPart K T) f1 d1) (M : Fk K w mg fA es n)
    (m_isinstance : mg "isinstance" = none) (m_tuple : mg "tuple" = none) (m_str : mg "str" = none) (m_all : mg "all" = none) (m_len : mg "len" = none) (m_zip : mg "zip" = none) :
    FnOk P w K mg base CX0 (k + 3) f (PySem.W.fnOf "is_order" "is_order" (defArgs s_form) (defBody s_form) (defScope s_form) .none kV doc pm an (.ref c) ct) ["hands", "thing"] (spForm K T T3) := by
  refine okC lk hc sc_form (fun vs H Q E h => ?_) (fun A outer s H vs Q E hr h => ?_)
  · obtain ⟨hh, v, d, rfl, _⟩ := h; rfl
  · obtain ⟨hh, v, d, rfl, hd, dk, hT, hT3, q⟩ := h
    refine ⟨_, pss_cons (ps_if (PW.pt (pw_or (pt_not (pt_val (pe_callB call_isi (by rfl) m_isinstance (by decide +kernel) (pa_cons (pv 1) (pa_cons (pe_bltn (v := .ty "tuple") (by rfl) m_tuple (by decide +kernel) rfl) pa_nil)))))
        (pw_or1 (pt_cmpR op_eq (pe_callB call_len_seq (by rfl) m_len PySem.boot_len (pa_cons (pv 1) pa_nil)) pe_int (nomark _))))) (pss_one (ps_ret pe_bl)) pss_nil)
      (pss_cons (ps_if (PW.pt (pw_or (pt_not (pt_val (pe_callB call_isi (by rfl) m_isinstance (by decide +kernel) (pa_cons (pe_ix ix_tup (pv 1) pe_int (fun _ _ => rfl)) (pa_cons (pe_bltn (v := .ty "str") (by rfl) m_str (by decide +kernel) rfl) pa_nil)))))
        (pw_or1 (pt_cmpR (op_notIn_kd M.d) (pe_ix ix_tup (pv 1) pe_int (fun _ _ => rfl)) (pe_glob (v := .ref fA) rfl M.m rfl) rfl)))) (pss_one (ps_ret pe_bl)) pss_nil)
      (pss_cons (ps_set (i := 2) sc_form.nd rfl (.inl rfl) (pe_ix ix_kdict (pe_glob (v := .ref fA) rfl M.m rfl) (pe_ix ix_tup (pv 1) pe_int (fun _ _ => rfl)) (fun _ _ => rfl)))
      (pss_cons (ps_if (pt_cmpR op_ne (pe_callB call_len_seq (by rfl) m_len PySem.boot_len (pa_cons (pv 1) pa_nil)) (pe_op op_add (pe_callB call_len_seq (by rfl) m_len PySem.boot_len (pa_cons (pv 2) pa_nil)) pe_int) (nomark _)) (pss_one (ps_ret pe_bl)) pss_nil)
      (pss_one (ps_ret (pe_allG (N' := ["kind", "part", "hands"]) (nt := 2) (js := [0]) (g := gPair K 0 1) (tt := tYes)
          ⟨tab, rfl, gxs_form, gxn_form,
            pi_zipA (by rfl) m_zip (pa_cons (pv 2) (pa_cons (pe_slice sl_tupA (pv 1) (po_some pe_int) po_none) pa_nil)),
            fun _ _ _ _ _ _ _ _ => pg_tupK rfl rfl (pgs_cons (pg_name (i := 0) nd_kp rfl (.inl rfl)) (pgs_cons (pg_name (i := 1) nd_kp rfl (.inl rfl)) pgs_nil)), fun _ _ _ _ _ _ _ _ => pts_nil,
            fun _ _ _ _ _ _ _ r => pe_call C_part.g r (by rfl) C_part.m C_part.k C_part.b .nil pass0 (pa_cons (pv 0) (pa_cons (pv 1) (pa_cons (pv 2) pa_nil))), fun _ => rfl⟩ hr (by rfl) m_all)))))), ?_⟩
    have no : formD hh d = false → Q (.bl false) H := fun e => by
      have q2 := q H .refl
      rw [e] at q2; exact q2
    refine ⟨v, rfl, v, .ty "tuple", .type (tyN d), .type "tuple", tupD d, rfl, .ty "tuple", dp_ty hd, kit_ty (kit_tup d), _, rfl, ite2 (fun e => ?_) fun e => ?_⟩
    · refine iteT (no ?_)
      cases d <;> first | rfl | cases e
    obtain ⟨ds, rfl⟩ : ∃ ds, d = .tuple ds := by cases d <;> first | exact ⟨_, rfl⟩ | exact absurd rfl e
    cases hd with
    | tup hs ha =>
      rename_i a xs
      cases dk with
      | tup hl hk =>
        have xl := dpAll_len ha
        refine ⟨.ref a, rfl, a, xs, rfl, .inr hs, rfl, _, rfl, ite2 (fun e2 => ?_) fun e2 => ?_⟩
        · have e3 := V.int.inj (of_decide_eq_true e2)
          have e4 : ds = [] := List.length_eq_zero_iff.mp (by omega)
          exact no (by rw [e4]; rfl)
        cases ha with
        | nil => exact absurd (decide_eq_true rfl) e2
        | cons ha1 ha2 =>
          rename_i x0 rest d0 dr
          refine ⟨.ref a, rfl, a, _, 0, x0, rfl, rfl, hs, at0, x0, .ty "str", .type (tyN d0), .type "str", strD d0, rfl, .ty "str", dp_ty ha1, kit_ty (kit_str d0), _, rfl, ite2 (fun e3 => ?_) fun e3 => ?_⟩
          · refine iteT (no ?_)
            cases d0 <;> first | rfl | cases e3
          obtain ⟨kd, rfl⟩ : ∃ kd, d0 = .str kd := by cases d0 <;> first | exact ⟨_, rfl⟩ | exact absurd rfl e3
          cases ha1
          cases hf : frm? kd with
          | none =>
            refine ⟨.ref a, rfl, a, _, 0, .str kd, rfl, rfl, hs, at0, kd, none, rfl, rfl, M.no kd hf, _, rfl, iteT (no ?_)⟩
            show (match frm? kd with | some ks => _ | none => false) = false
            rw [hf]
          | some ks =>
            obtain ⟨t, h1, h2, h3⟩ := M.at_ kd ks hf
            have kl := frm_len hf
            have rl := dpAll_len ha2
            have ef : formD hh (.tuple (.str kd :: dr)) = (decide (dr.length = ks.length) && (ks.zip dr).all fun q => partD hh q.1 q.2) := by
              show (match frm? kd with | some ks => _ | none => false) = _
              rw [hf]
            refine ⟨.ref a, rfl, a, _, 0, .str kd, rfl, rfl, hs, at0, kd, some (.ref t), rfl, rfl, h1, _, rfl, iteF ?_⟩
            refine ⟨.ref a, rfl, a, _, 0, .str kd, rfl, rfl, hs, at0, fA, kd, .ref t, rfl, rfl, h2, ?_⟩
            refine ⟨.ref a, rfl, a, _, rfl, .inr hs, .ref t, rfl, t, ks.map V.str, rfl, .inr (h3 _), _, _, rfl, rfl, rfl, _, rfl, ite2 (fun e4 => ?_) fun e4 => ?_⟩
            · refine no ?_
              rw [ef]
              have e5 : ¬ dr.length = ks.length := fun z => by
                rw [List.length_map, List.length_cons, rl, z] at e4
                revert e4
                simp
              rw [decide_eq_false e5]; rfl
            · have e5 : dr.length = ks.length := by
                refine Decidable.byContradiction fun z => e4 ?_
                rw [List.length_map, List.length_cons, rl]
                refine (Bool.not_eq_true' _).mpr (decide_eq_false fun z2 => z ?_)
                have := V.int.inj z2
                omega
              refine ⟨.ref t, rfl, .ref a, rfl, 1, rfl, a, _, rfl, hs, fun z => absurd z one_cut, fun _ B nB => ?_⟩
              rw [cut_one]
              have x1 : Ex [] H (upd H B (.tup rest)) := .new nB
              refine ⟨t, B, ks.map V.str, rest, rfl, .inr ⟨h3 _, .of upd_same, x1.t _ hT3, fun H2 tb => gx_it (walk_zipT (xs := ks.map V.str) (ys := rest) rfl)
                (fun i ys H' => ys.length = i ∧ Ex [] (upd H B (.tup rest)) H' ∧ (((ks.zip dr).take i).all fun q => partD hh q.1 q.2) = true) ⟨rfl, .tabbed (x1.t _ hT3) tb, rfl⟩
                (fun i ys H' _ p => ⟨h3 _, .of (p.2.1.tup upd_same)⟩) (fun i x ys H3 H4 hi p y => ?_) (fun ys H' p => ?_)⟩⟩
              · obtain ⟨T9, x9, y9, rfl, n9, rfl, hx9, hy9⟩ := y
                obtain ⟨pl, p1, p2⟩ := p
                have hx9 : (ks.map V.str)[i]? = some x9 := hx9
                have hy9 : rest[i]? = some y9 := hy9
                rw [List.getElem?_map] at hx9
                cases hk9 : ks[i]? with
                | none => rw [hk9] at hx9; cases hx9
                | some k9 =>
                  rw [hk9] at hx9
                  cases hx9
                  obtain ⟨d9, hd9, dp9⟩ := dpAll_get ha2 hy9
                  have m9 : d9 ∈ dr := List.mem_of_getElem? hd9
                  have x9 : Ex [] H3 (upd H3 T9 (.tup [.str k9, y9])) := .new n9
                  have x3 : Ex [] H _ := (x1.trans p1).trans x9
                  refine ⟨T9, [.str k9, y9], rfl, .of upd_same, rfl, _, _, rfl, _, _, rfl, rfl, ?_⟩
                  refine ⟨fun j v e => ?_, ?_⟩
                  · match j, e with
                    | 2, e => exact e
                    | 0, e => cases e
                    | 1, e => cases e
                    | j + 3, e => simp [gst] at e
                  refine ⟨.str k9, rfl, y9, rfl, .int hh, rfl, k9, y9, d9, hh, rfl, dp_ex x3 dp9, hk d9 (List.mem_cons_of_mem _ m9), x3.t _ hT, fun H5 e5 => ⟨by rw [sizeLine_eq]; rw [List.length_map] at hi; omega, _, rfl, ite2 (fun b => ?_) fun b => ?_⟩⟩
                  · refine ⟨by rw [List.length_append, List.length_singleton, pl], (p1.trans x9).trans e5, ?_⟩
                    have ez : (ks.zip dr)[i]? = some (k9, d9) := by rw [List.getElem?_zip_eq_some]; exact ⟨hk9, hd9⟩
                    rw [List.take_add_one, ez, List.all_append, p2]
                    show (true && (partD hh k9 d9 && true)) = true
                    rw [b]; rfl
                  · have q2 := q H5 (x3.trans e5)
                    have e7 : ((ks.zip dr).all fun q => partD hh q.1 q.2) = false := by
                      rw [List.all_eq_false]
                      have ez : (ks.zip dr)[i]? = some (k9, d9) := by rw [List.getElem?_zip_eq_some]; exact ⟨hk9, hd9⟩
                      exact ⟨(k9, d9), List.mem_of_getElem? ez, b⟩
                    rw [ef, e7, Bool.and_false] at q2
                    exact q2
              · obtain ⟨pl, p1, p2⟩ := p
                have e6 : min (ks.map V.str).length rest.length = (ks.zip dr).length := by
                  rw [List.length_map, List.length_zip, rl]
                rw [e6, List.take_length] at p2
                have q2 := q H' (x1.trans p1)
                rw [ef, p2, decide_eq_true e5] at q2
                exact q2
end
end K48

namespace K48
open PySem PySem.Spec PyProof.Rows L2 Kk RZ
abbrev s_code : Stmt := topS 22
theorem sc_code : FnScope ["hands", "thing"] ["hands", "thing"] (defScope s_code) := ⟨rfl, rfl, rfl, by decide +kernel, rfl, by decide +kernel, by decide +kernel⟩
abbrev scG_code : Scope := ⟨.function, [(Str.ofString ".0", .local), (Str.ofString "order", .local), (Str.ofString "hands", .free), (Str.ofString "is_order", .globalImplicit)], true, false, []⟩
theorem gxn_code : GxN ["hands", "thing"] (defScope s_code) scG_code ["order", "hands"] 1 [0] := ⟨rfl, fun i j h => by
  match i, h with
  | 0, h => cases h; exact ⟨"hands", rfl, rfl, by decide +kernel, .inl (by decide +kernel)⟩
  | i + 1, h => simp at h⟩
theorem gxs_code : GxS (defScope s_code) scG_code := ⟨rfl, rfl, by decide +kernel, by decide +kernel, by decide +kernel⟩
theorem nd_oh : (["order", "hands"] : List Str).Nodup := by decide +kernel
def codeD (hh : Int) : PyData → Bool
  | .tuple ds => ds.all (formD hh)
  | _ => false
section
variable {P : Program} {w : World} {K : PySem.W.Frag} {mg : Str → Option Value} {base : Heap}
def spCode (K : PySem.W.Frag) (T T3 T4 : Addr) : Sp := fun vs H Q _ => ∃ (hh : Int) (v : V) (d : PyData), vs = [.int hh, v] ∧ Dp K H v d ∧ Dk d ∧ GxR.TabG H T ∧ GxR.TabG H T3 ∧ GxR.TabG H T4 ∧ ∀ H', Ex [] H H' → Q (.bl (codeD hh d)) H'
theorem ok_code {f c T T3 T4 f1 : Addr} {d1 : FuncData} {k : Nat} {oc : Value} {od an : Option Addr} {osl : Array (Option Value)} {kV doc pm ct : Value}
    (lk : K.lookup f = some ⟨oc, od, .func (PySem.W.fnOf "is_code" "is_code" (defArgs s_code) (defBody s_code) (defScope s_code) .none kV doc pm an (.ref c) ct), osl⟩) (hc : PySem.W.codeIn K (.ref c) "is_code" = true)
    (tab : GxR.TabB base mg c T4) (C_order : Cl P w K mg base k "is_order" ["hands", "thing"] (spForm K T T3) f1 d1)
    (m_isinstance : mg "isinstance" = none) (m_tuple : mg "tuple" = none) (m_all : mg "all" = none) :
    FnOk P w K mg base CX0 (k + 3) f (PySem.W.fnOf "is_code" "is_code" (defArgs s_code) (defBody s_code) (defScope s_code) .none kV doc pm an (.ref c) ct) ["hands", "thing"] (spCode K T T3 T4) := by
  refine okC lk hc sc_code (fun vs H Q E h => ?_) (fun A outer s H vs Q E hr h => ?_)
  · obtain ⟨hh, v, d, rfl, _⟩ := h; rfl
  · obtain ⟨hh, v, d, rfl, hd, dk, hT, hT3, hT4, q⟩ := h
    refine ⟨_, pss_one (ps_ret (pe_and (pe_callB call_isi (by rfl) m_isinstance (by decide +kernel) (pa_cons (pv 1) (pa_cons (pe_bltn (v := .ty "tuple") (by rfl) m_tuple (by decide +kernel) rfl) pa_nil)))
        (pe_one (pe_allG (N' := ["order", "hands"]) (nt := 1) (js := [0]) (g := gName 0) (tt := tYes)
          ⟨tab, rfl, gxs_code, gxn_code, pi_tup (pv 1), fun _ _ _ _ _ _ _ _ => pg_name (i := 0) nd_oh rfl (.inl rfl), fun _ _ _ _ _ _ _ _ => pts_nil,
            fun _ _ _ _ _ _ _ r => pe_call C_order.g r (by rfl) C_order.m C_order.k C_order.b .nil pass0 (pa_cons (pv 1) (pa_cons (pv 0) pa_nil)), fun _ => rfl⟩ hr (by rfl) m_all)))), ?_⟩
    refine ⟨v, rfl, v, .ty "tuple", .type (tyN d), .type "tuple", tupD d, rfl, .ty "tuple", dp_ty hd, kit_ty (kit_tup d), _, rfl, ite2 (fun e => ?_) fun e => ?_⟩
    · obtain ⟨ds, rfl⟩ : ∃ ds, d = .tuple ds := by cases d <;> first | exact ⟨_, rfl⟩ | cases e
      cases hd with
      | tup hs ha =>
        rename_i a xs
        cases dk with
        | tup hl hk =>
          have xl := dpAll_len ha
          refine ⟨.ref a, rfl, a, rfl, ⟨xs, hs⟩, hT4, fun H2 tb => gx_it (walk_tup (xs := xs)) (fun i ys H' => ys.length = i ∧ Ex [] H H' ∧ (ds.take i).all (formD hh) = true) ⟨rfl, .tabbed hT4 tb, rfl⟩ (fun i ys H' _ p => p.2.1.seqT hs) (fun i x ys H3 H4 hi p y => ?_) (fun ys H' p => ?_)⟩
          · obtain ⟨rfl, hx⟩ := y
            obtain ⟨pl, p1, p2⟩ := p
            obtain ⟨dx, hdx, dpx⟩ := dpAll_get ha hx
            have mx : dx ∈ ds := List.mem_of_getElem? hdx
            refine ⟨fun j v e => ?_, ?_⟩
            · match j, e with
              | 1, e => exact e
              | 0, e => cases e
              | j + 2, e => simp [gst] at e
            · refine ⟨.int hh, rfl, x, rfl, hh, x, dx, rfl, dp_ex p1 dpx, hk dx mx, p1.t _ hT, p1.t _ hT3, fun H5 e5 => ⟨by rw [sizeLine_eq]; omega, _, rfl, ite2 (fun b => ?_) fun b => ?_⟩⟩
              · refine ⟨by rw [List.length_append, List.length_singleton, pl], p1.trans e5, ?_⟩
                rw [List.take_add_one, hdx, List.all_append, p2]
                show (true && (formD hh dx && true)) = true
                rw [b]; rfl
              · have e2 : codeD hh (.tuple ds) = false := by
                  show ds.all (formD hh) = false
                  rw [List.all_eq_false]
                  exact ⟨dx, mx, b⟩
                have q2 := q H5 (p1.trans e5)
                rw [e2] at q2; exact q2
          · obtain ⟨pl, p1, p2⟩ := p
            have ea : codeD hh (.tuple ds) = true := by
              rw [xl, List.take_length] at p2; exact p2
            have q2 := q H' p1
            rw [ea] at q2; exact q2
    · have e2 : codeD hh d = false := by cases d <;> first | rfl | exact absurd rfl e
      have e3 : tupD d = false := by cases d <;> first | rfl | exact absurd rfl e
      have := q H .refl
      rw [e2] at this; first | exact this | (rw [e3]; exact this)
end
end K48

namespace K48
open PySem PySem.Spec PyProof.Rows L2 Kk RZ
abbrev s_cell : Stmt := topS 33
abbrev s_begin : Stmt := topS 34
abbrev s_draw : Stmt := topS 35
abbrev s_one : Stmt := topS 38
theorem sc_cell : FnScope ["_law_script", "_law_k"] ["_law_script", "_law_k"] (defScope s_cell) := ⟨rfl, rfl, rfl, by decide +kernel, rfl, by decide +kernel, by decide +kernel⟩
theorem sc_begin : FnScope ["_law_cell", "_law_seed"] ["_law_cell"] (defScope s_begin) := ⟨rfl, rfl, rfl, by decide +kernel, rfl, by decide +kernel, by decide +kernel⟩
theorem sc_draw : FnScope ["_law_state", "_law_many", "_law_got", "_law_number"] ["_law_state", "_law_many"] (defScope s_draw) := ⟨rfl, rfl, rfl, by decide +kernel, rfl, by decide +kernel, by decide +kernel⟩
theorem sc_one : FnScope ["_law_state", "_law_row_here"] ["_law_state", "_law_row_here"] (defScope s_one) := ⟨rfl, rfl, rfl, by decide +kernel, rfl, by decide +kernel, by decide +kernel⟩
/-- the state of the draws -/
def St2 (H : Hp) (d : Addr) : Prop := ∃ a b : Int, H d = some (.lst [.int a, .int b]) ∧ 0 ≤ a ∧ 0 ≤ b ∧ b < 4294967296
theorem St2.ex {H H' : Hp} {d : Addr} {xs : List Addr} (h : St2 H d) (e : Ex xs H H') (m : d ∉ xs) : St2 H' d := by
  obtain ⟨a, b, h, r⟩ := h
  exact ⟨a, b, e.lst h m, r⟩
theorem St2.some {H : Hp} {d : Addr} (h : St2 H d) : ∃ xs, H d = some (.lst xs) := let ⟨_, _, h, _⟩ := h; ⟨_, h⟩
theorem St2.ne {H : Hp} {d p : Addr} (h : St2 H d) (n : H p = none) : p ≠ d := fun z => by
  obtain ⟨xs, h⟩ := h.some
  rw [z, h] at n; cases n
theorem atN {α : Type} {xs : List α} {j : Nat} {v : α} (h : xs[j]? = some v) : atI xs (j : Int) = some v := atI_nat h
theorem atZ {α : Type} {xs : List α} {v : Int} (h0 : 0 ≤ v) (h1 : v < xs.length) : ∃ x, atI xs v = some x ∧ xs[v.toNat]? = some x := by
  have l : v.toNat < xs.length := by omega
  refine ⟨xs[v.toNat], ?_, by simp [l]⟩
  have := atI_nat (List.getElem?_eq_getElem l)
  rwa [Int.toNat_of_nonneg h0] at this
section
variable {P : Program} {w : World} {K : PySem.W.Frag} {mg : Str → Option Value} {base : Heap}
def spCell (K : PySem.W.Frag) : Sp := fun vs H Q _ => ∃ (s : Addr) (ns : List Int) (k : Nat), vs = [.ref s, .int k] ∧ SqL K H s (ns.map V.int) ∧ ∀ n, Q (.int n) H
theorem ok_cell {f : Addr} {fd : FuncData} {k : Nat} (F : Fun K "_law_cell_at" "_law_cell_at" s_cell f fd) (m_len : mg "len" = none) : FnOk P w K mg base CX0 (k + 1) f fd ["_law_script", "_law_k"] (spCell K) := by
  refine F.ok sc_cell (fun vs H Q E h => ?_) (fun cdv A outer s H vs Q E hr h => ?_)
  · obtain ⟨s, ns, k, rfl, _⟩ := h; rfl
  · obtain ⟨s, ns, k, rfl, hS, q⟩ := h
    refine ⟨_, (pss_cons (ps_if (pt_cmpR op_lt (pv 1) (pe_callB call_len_seq (by rfl) m_len PySem.boot_len (pa_cons (pv 0) pa_nil)) (nomark _)) (pss_one (ps_ret (pe_ix ix_list (pv 0) (pv 1) (fun _ _ => rfl)))) pss_nil)
      (pss_one (ps_ret pe_int))), ?_⟩
    refine ⟨.int k, rfl, .ref s, rfl, s, _, rfl, .inl hS, _, _, rfl, rfl, _, rfl, ite2 (fun e => ?_) (fun e => ?_)⟩
    · have e1 : k < ns.length := by
        have e2 := of_decide_eq_true e
        rw [List.length_map] at e2; omega
      have e3 : (ns.map V.int)[k]? = some (.int ns[k]) := by rw [List.getElem?_map, List.getElem?_eq_getElem e1]; rfl
      exact ⟨.ref s, rfl, .int k, rfl, s, _, _, _, rfl, rfl, hS, atN e3, q _⟩
    · exact q 0
def spBegin : Sp := fun vs H Q _ => ∃ n : Int, vs = [.int n] ∧ ∀ p H', H p = none → Ex [] H H' → St2 H' p → Q (.ref p) H'
theorem ok_begin {f : Addr} {fd : FuncData} {k : Nat} (F : Fun K "_law_begin" "_law_begin" s_begin f fd) : FnOk P w K mg base CX0 (k + 1) f fd ["_law_cell"] spBegin := by
  refine F.ok sc_begin (fun vs H Q E h => ?_) (fun cdv A outer s H vs Q E hr h => ?_)
  · obtain ⟨n, rfl, _⟩ := h; rfl
  · obtain ⟨n, rfl, q⟩ := h
    refine ⟨_, (pss_cons (ps_set (i := 1) sc_begin.nd rfl (.inl rfl) (pe_op op_add (pe_op op_add (pe_op op_mod (pv 0) pe_int) (pe_op op_mod (pe_op op_fdivW (pv 0) pe_int) pe_int)) pe_int))
      (pss_cons (ps_if (pt_cmpR op_lt (pv 0) (pe_op op_pow pe_int pe_int) (nomark _)) (pss_one (ps_ret (pe_lst (pa_cons pe_int (pa_cons (pv 1) pa_nil))))) pss_nil)
      (pss_one (ps_ret (pe_lst (pa_cons (pv 0) (pa_cons (pv 1) pa_nil))))))), ?_⟩
    have z1 : 0 ≤ n % 2147483647 := Int.emod_nonneg _ (by decide)
    have z2 : n % 2147483647 < 2147483647 := Int.emod_lt_of_pos _ (by decide)
    have z3 : 0 ≤ n / 2147483647 % 1000003 := Int.emod_nonneg _ (by decide)
    have z4 : n / 2147483647 % 1000003 < 1000003 := Int.emod_lt_of_pos _ (by decide)
    refine ⟨.int n, rfl, n, 2147483647, rfl, rfl, (by show (0 : Int) < 2147483647; decide), .int n, rfl, n, 2147483647, rfl, rfl, wide_div (b := 32) (by decide) (by decide) (by decide) (by decide), _, 1000003, rfl, rfl, (by show (0 : Int) < 1000003; decide), _, _, rfl, rfl, _, 3, rfl, rfl, ?_⟩
    refine ⟨.int n, rfl, 10, 18, rfl, rfl, ⟨by decide, by decide, by decide⟩, n, _, rfl, rfl, _, rfl, ite2 (fun e => ?_) (fun e => ?_)⟩
    · exact ⟨_, rfl, (by show 2 ≤ sizeLine; decide), fun p np => q p _ np (.new np) ⟨_, _, upd_same, by decide, by omega, by omega⟩⟩
    · refine ⟨.int n, rfl, _, rfl, (by show 2 ≤ sizeLine; decide), fun p np => q p _ np (.new np) ⟨_, _, upd_same, ?_, by omega, by omega⟩⟩
      refine Decidable.byContradiction fun z => e (decide_eq_true ?_)
      exact Int.lt_trans (Int.not_le.mp z) (by decide)
def spDraw : Sp := fun vs H Q _ => ∃ (d : Addr) (m : Int), vs = [.ref d, .int m] ∧ St2 H d ∧ 0 < m ∧ m < 1000000 ∧ ∀ H' v, 0 ≤ v → v < m → Ex [d] H H' → St2 H' d → Q (.int v) H'
theorem ok_draw {f : Addr} {fd : FuncData} {k : Nat} (F : Fun K "_law_draw" "_law_draw" s_draw f fd) : FnOk P w K mg base CX0 (k + 1) f fd ["_law_state", "_law_many"] spDraw := by
  refine F.ok sc_draw (fun vs H Q E h => ?_) (fun cdv A outer s H vs Q E hr h => ?_)
  · obtain ⟨d, m, rfl, _⟩ := h; rfl
  · obtain ⟨d, m, rfl, ⟨a, b, hd, ha, hb, hb2⟩, hm, hm2, q⟩ := h
    refine ⟨_, (pss_cons (ps_if (pt_cmpR op_gt (pe_ix ix_list (pv 0) pe_int (fun _ _ => rfl)) pe_int (nomark _)) (pss_cons (ps_set (i := 2) sc_draw.nd rfl (.inl rfl) (pe_op op_mod (pe_ix ix_list (pv 0) pe_int (fun _ _ => rfl)) (pv 1)))
      (pss_cons (ps_asg (pe_op op_fdiv (pe_ix ix_list (pv 0) pe_int (fun _ _ => rfl)) (pv 1)) (pg_sub (pv 0) pe_int set_list))
      (pss_one (ps_ret (pv 2))))) pss_nil)
      (pss_cons (ps_set (i := 3) sc_draw.nd rfl (.inl rfl) (pe_op op_mod (pe_op op_add (pe_op op_mul (pe_ix ix_list (pv 0) pe_int (fun _ _ => rfl)) pe_int) pe_int) pe_int))
      (pss_cons (ps_asg (pe_op op_mod (pe_op op_add (pe_op op_mul (pv 3) pe_int) pe_int) pe_int) (pg_sub (pv 0) pe_int set_list))
      (pss_one (ps_ret (pe_op op_mod (pe_op op_fdiv (pe_op op_mod (pe_op op_add (pe_op op_mul (pe_ix ix_list (pv 0) pe_int (fun _ _ => rfl)) pe_int) pe_int) pe_int) pe_int) (pv 1))))))), ?_⟩
    have hL : SqL K H d [.int a, .int b] := .of hd
    refine ⟨.ref d, rfl, d, _, 0, .int a, rfl, rfl, hL, rfl, a, 0, rfl, rfl, _, rfl, ite2 (fun e => ?_) (fun e => ?_)⟩
    · refine ⟨.ref d, rfl, d, _, 0, .int a, rfl, rfl, hL, rfl, .int m, rfl, a, m, rfl, rfl, hm, ?_⟩
      refine ⟨.ref d, rfl, d, _, 0, .int a, rfl, rfl, hL, rfl, .int m, rfl, a, m, rfl, rfl, ⟨hm, by omega⟩, .ref d, rfl, d, _, 0, 0, rfl, rfl, hd, rfl, .int (a % m), rfl, ?_⟩
      exact q _ _ (Int.emod_nonneg _ (by omega)) (Int.emod_lt_of_pos _ hm) (.put hd nt_lst (by simp)) ⟨_, b, upd_same, Int.ediv_nonneg ha (by omega), hb, hb2⟩
    · have z1 : 0 ≤ (b * 48271 + 11) % 2147483629 := Int.emod_nonneg _ (by decide)
      have z2 : (b * 48271 + 11) % 2147483629 < 2147483629 := Int.emod_lt_of_pos _ (by decide)
      refine ⟨.ref d, rfl, d, _, 1, .int b, rfl, rfl, hL, rfl, b, 48271, rfl, rfl, .inr ⟨by decide, by decide⟩, _, 11, rfl, rfl, _, 2147483629, rfl, rfl, (by show (0 : Int) < 2147483629; decide), ?_⟩
      let r := (b * 48271 + 11) % 2147483629
      have y1 : 0 ≤ (r * 69621 + 7) % 2147483587 := Int.emod_nonneg _ (by decide)
      have y2 : (r * 69621 + 7) % 2147483587 < 2147483587 := Int.emod_lt_of_pos _ (by decide)
      refine ⟨_, rfl, r, 69621, rfl, rfl, .inr ⟨by decide, by decide⟩, _, 7, rfl, rfl, _, 2147483587, rfl, rfl, (by show (0 : Int) < 2147483587; decide), .ref d, rfl, d, _, 1, 1, rfl, rfl, hd, rfl, ?_⟩
      let t := (r * 69621 + 7) % 2147483587
      have x1 : Ex [d] H (upd H d (.lst [.int a, .int t])) := .put hd nt_lst (by simp)
      have hL2 : SqL K (upd H d (.lst [.int a, .int t])) d [.int a, .int t] := .of upd_same
      refine ⟨.ref d, rfl, d, _, 1, .int t, rfl, rfl, hL2, rfl, t, 16807, rfl, rfl, .inr ⟨by decide, by decide⟩, _, 3, rfl, rfl, _, 2147483579, rfl, rfl, (by show (0 : Int) < 2147483579; decide), _, 8, rfl, rfl, ⟨by decide, by decide⟩, .int m, rfl, _, m, rfl, rfl, hm, ?_⟩
      exact q _ _ (Int.emod_nonneg _ (by omega)) (Int.emod_lt_of_pos _ hm) x1 ⟨a, t, upd_same, ha, y1, by omega⟩
def spOne (K : PySem.W.Frag) : Sp := fun vs H Q _ => ∃ (d r : Addr) (xs : List V), vs = [.ref d, .ref r] ∧ St2 H d ∧ r ≠ d ∧ SqL K H r xs ∧ 0 < xs.length ∧ xs.length < 1000 ∧ ∀ (H' : Hp) (i : Nat) (x : V), xs[i]? = some x → Ex [d] H H' → St2 H' d → Q x H'
theorem ok_one {f f1 : Addr} {fd d1 : FuncData} {k : Nat} (F : Fun K "_law_one" "_law_one" s_one f fd) (C__law_draw : Cl P w K mg base k "_law_draw" ["_law_state", "_law_many"] spDraw f1 d1) (m_len : mg "len" = none) : FnOk P w K mg base CX0 (k + 1) f fd ["_law_state", "_law_row_here"] (spOne K) := by
  refine F.ok sc_one (fun vs H Q E h => ?_) (fun cdv A outer s H vs Q E hr h => ?_)
  · obtain ⟨d, r, xs, rfl, _⟩ := h; rfl
  · obtain ⟨d, r, xs, rfl, hd, hne, hR, h1, h2, q⟩ := h
    refine ⟨_, (pss_one (ps_ret (pe_ix ix_list (pv 1) (pe_call C__law_draw.g hr (by rfl) C__law_draw.m C__law_draw.k C__law_draw.b .nil pass0 (pa_cons (pv 0) (pa_cons (pe_callB call_len_seq (by rfl) m_len PySem.boot_len (pa_cons (pv 1) pa_nil)) pa_nil))) (fun _ _ => rfl)))), ?_⟩
    refine ⟨.ref r, rfl, .ref d, rfl, .ref r, rfl, r, xs, rfl, .inl hR, d, _, rfl, hd, by omega, by omega, fun H' v h3 h4 x s2 => ?_⟩
    obtain ⟨y, e1, e2⟩ := atZ h3 h4
    exact ⟨r, xs, v, y, rfl, rfl, x.seqL hR (by simp [hne]), e1, q H' _ y e2 x s2⟩
end
end K48

namespace Kk
open PySem PySem.Spec PyProof.Rows L2
/-! places: a text, then numbers -/
def plV (nm : Str) (p : List Nat) : List V := .str nm :: p.map fun n => V.int (n : Nat)
def plD (nm : Str) (p : List Nat) : PyData := .tuple (.str nm :: p.map fun n => PyData.int (n : Nat))
def plK (nm : Str) (p : List Nat) : List L2.Key := Sum.inr nm :: p.map fun n => Sum.inl ((n : Nat) : Int)
def plO (nm : Str) (p : List Nat) : List (Int ⊕ List Nat) := Sum.inr nm.cps.toList :: p.map fun n => Sum.inl ((n : Nat) : Int)
def leP (nm : Str) (p q : List Nat) : Prop := PyProof.Rows.lexLt PyProof.Rows.itemOrd (plO nm q) (plO nm p) = false
theorem plK_v (nm : Str) (p : List Nat) : (plK nm p).map kV = plV nm p := by
  unfold plK plV
  rw [List.map_cons, List.map_map]; rfl
theorem nat_map_inj {α : Type} {f : Nat → α} (hf : ∀ a b, f a = f b → a = b) : ∀ {p q : List Nat}, p.map f = q.map f → p = q
  | [], [], _ => rfl
  | [], _ :: _, h => by cases h
  | _ :: _, [], h => by cases h
  | a :: p, b :: q, h => by
    rw [List.map_cons, List.map_cons] at h
    obtain ⟨h1, h2⟩ := List.cons.inj h
    rw [hf a b h1, nat_map_inj hf h2]
theorem plK_inj {nm : Str} {p q : List Nat} (h : plK nm p = plK nm q) : p = q :=
  nat_map_inj (fun a b e => by have := Sum.inl.inj e; omega) (List.cons.inj h).2
theorem plO_inj {nm : Str} {p q : List Nat} (h : plO nm p = plO nm q) : p = q :=
  nat_map_inj (fun a b e => by have := Sum.inl.inj e; omega) (List.cons.inj h).2
theorem plD_inj {nm : Str} {p q : List Nat} (h : plD nm p = plD nm q) : p = q := by
  have h1 := PyData.tuple.inj h
  exact nat_map_inj (fun a b e => by have := PyData.int.inj e; omega) (List.cons.inj h1).2
theorem leP_anti {nm : Str} {p q : List Nat} (h : leP nm p q) (g : leP nm q p) : p = q :=
  plO_inj ((PyProof.Rows.listOrd PyProof.Rows.itemOrd).total _ _ g h)
theorem perm_uniq {α : Type} {R : α → α → Prop} (anti : ∀ a b, R a b → R b a → a = b) : ∀ {l m : List α}, l.Pairwise R → m.Pairwise R → l.Perm m → l = m
  | [], m, _, _, h => (List.Perm.eq_nil h.symm).symm
  | x :: l, [], _, _, h => absurd h.length_eq (by simp)
  | x :: l, y :: m, hl, hm, h => by
    have e : x = y := by
      rcases List.mem_cons.mp (h.mem_iff.mp (List.mem_cons_self (a := x) (l := l))) with e | hx
      · exact e
      · rcases List.mem_cons.mp (h.mem_iff.mpr (List.mem_cons_self (a := y) (l := m))) with e | hy
        · exact e.symm
        · exact anti x y (List.rel_of_pairwise_cons hl hy) (List.rel_of_pairwise_cons hm hx)
    subst e
    rw [perm_uniq anti (List.pairwise_cons.mp hl).2 (List.pairwise_cons.mp hm).2 h.cons_inv]
section
variable {K : PySem.W.Frag} {H : Hp}
theorem ints_inv : ∀ {xs : List V} {p : List Nat}, TpAll K H xs (p.map fun n => PyData.int (n : Nat)) → xs = p.map fun n => V.int (n : Nat)
  | _, [], h => by cases h; rfl
  | _, n :: p, h => by
    cases h with
    | cons a b => cases a; rw [ints_inv b]; rfl
theorem ints_all (p : List Nat) : TpAll K H (p.map fun n => V.int (n : Nat)) (p.map fun n => PyData.int (n : Nat)) := by
  induction p with
  | nil => exact .nil
  | cons n p ih => exact .cons (.int _) ih
theorem tp_pl {v : V} {nm : Str} {p : List Nat} (h : Tp K H v (plD nm p)) : ∃ a, v = .ref a ∧ SqT K H a (plV nm p) := by
  unfold plD at h
  cases h with
  | tup hs ha =>
    cases ha with
    | cons a1 a2 =>
      cases a1
      have e := ints_inv a2
      subst e
      exact ⟨_, rfl, hs⟩
theorem pl_tp {a : Addr} {nm : Str} {p : List Nat} (h : SqT K H a (plV nm p)) : Tp K H (.ref a) (plD nm p) := .tup h (.cons (.str _) (ints_all p))
end
/-! two lists, item by item -/
inductive P2 {α β : Type} (R : α → β → Prop) : List α → List β → Prop
  | nil : P2 R [] []
  | cons {a : α} {b : β} {l : List α} {m : List β} : R a b → P2 R l m → P2 R (a :: l) (b :: m)
theorem P2.perm {α β : Type} {R : α → β → Prop} {l l' : List α} (p : l.Perm l') : ∀ {m : List β}, P2 R l m → ∃ m', m.Perm m' ∧ P2 R l' m' := by
  induction p with
  | nil => intro m h; exact ⟨m, List.Perm.refl _, h⟩
  | cons x _ ih =>
    intro m h
    cases h with
    | cons a b =>
      obtain ⟨m', q, r⟩ := ih b
      exact ⟨_ :: m', q.cons _, .cons a r⟩
  | swap x y l =>
    intro m h
    cases h with
    | cons a b =>
      cases b with
      | cons c d => exact ⟨_, List.Perm.swap _ _ _, .cons c (.cons a d)⟩
  | trans _ _ ih1 ih2 =>
    intro m h
    obtain ⟨m1, q1, r1⟩ := ih1 h
    obtain ⟨m2, q2, r2⟩ := ih2 r1
    exact ⟨m2, q1.trans q2, r2⟩
theorem P2.get {α β : Type} {R : α → β → Prop} {l : List α} {m : List β} (h : P2 R l m) : ∀ {i : Nat} {b : β}, m[i]? = some b → ∃ a, l[i]? = some a ∧ R a b := by
  induction h with
  | nil => intro i b e; simp at e
  | cons a _ ih =>
    intro i b e
    cases i with
    | zero => cases e; exact ⟨_, rfl, a⟩
    | succ i => exact ih (i := i) (by simpa using e)
theorem P2.len {α β : Type} {R : α → β → Prop} {l : List α} {m : List β} (h : P2 R l m) : l.length = m.length := by
  induction h with
  | nil => rfl
  | cons _ _ ih => rw [List.length_cons, List.length_cons, ih]
section
variable {K : PySem.W.Frag} {H : Hp}
theorem P2.tp {nm : Str} : ∀ {us : List V} {ps : List (List Nat)}, P2 (fun v p => Tp K H v (plD nm p)) us ps → TpAll K H us (ps.map (plD nm))
  | _, _, .nil => .nil
  | _, _, .cons a b => .cons a (P2.tp b)
theorem tp_p2 {nm : Str} : ∀ {us : List V} {ps : List (List Nat)}, TpAll K H us (ps.map (plD nm)) → P2 (fun v p => Tp K H v (plD nm p)) us ps
  | _, [], h => by cases h; exact .nil
  | _, p :: ps, h => by
    cases h with
    | cons a b => exact .cons a (tp_p2 b)
end
/-- a place, tracked -/
def PlT (nm : Str) (H : Hp) (v : V) (p : List Nat) : Prop := ∃ a, v = .ref a ∧ H a = some (.tup (plV nm p))
theorem PlT.tp {K : PySem.W.Frag} {H : Hp} {nm : Str} {v : V} {p : List Nat} (h : PlT nm H v p) : Tp K H v (plD nm p) := by
  obtain ⟨a, rfl, h⟩ := h
  exact pl_tp (.of h)
theorem PlT.ex {xs : List Addr} {H H' : Hp} {nm : Str} {v : V} {p : List Nat} (h : PlT nm H v p) (e : Ex xs H H') : PlT nm H' v p := by
  obtain ⟨a, rfl, h⟩ := h
  exact ⟨a, rfl, e.tup h⟩
theorem P2.imp {α β : Type} {R S : α → β → Prop} {l : List α} {m : List β} (h : P2 R l m) (f : ∀ a b, R a b → S a b) : P2 S l m := by
  induction h with
  | nil => exact .nil
  | cons a _ ih => exact .cons (f _ _ a) ih
theorem P2.app {α β : Type} {R : α → β → Prop} {l l' : List α} {m m' : List β} (h : P2 R l m) (g : P2 R l' m') : P2 R (l ++ l') (m ++ m') := by
  induction h with
  | nil => exact g
  | cons a _ ih => exact .cons a ih
theorem P2.getL {α β : Type} {R : α → β → Prop} {l : List α} {m : List β} (h : P2 R l m) : ∀ {i : Nat} {a : α}, l[i]? = some a → ∃ b, m[i]? = some b ∧ R a b := by
  induction h with
  | nil => intro i b e; simp at e
  | cons a _ ih =>
    intro i b e
    cases i with
    | zero => cases e; exact ⟨_, rfl, a⟩
    | succ i => exact ih (i := i) (by simpa using e)
theorem P2.pls {K : PySem.W.Frag} {H : Hp} {nm : Str} {us : List V} {ps : List (List Nat)} (h : P2 (PlT nm H) us ps) : TpAll K H us (ps.map (plD nm)) := by
  induction h with
  | nil => exact .nil
  | cons a _ ih => exact .cons a.tp ih
def sh0 : Nat → Bool := fun i => i == 0
theorem sh_succ (i : Nat) : sh0 (i + 1) = false := rfl
theorem it_ints : ∀ (p : List Nat) (i : Nat) {its : List Value}, Vals (p.map fun n => V.int (n : Nat)) its → PyProof.Rows.tupItems sh0 (i + 1) its = some (p.map fun n => Sum.inl ((n : Nat) : Int))
  | [], i, _, h => by cases h; rfl
  | n :: p, i, _, h => by
    cases h with
    | cons a b =>
      obtain ⟨t, rfl⟩ := a
      unfold PyProof.Rows.tupItems
      rw [sh_succ, if_neg (by decide), it_ints p (i + 1) b]; rfl
theorem it_pl {nm : Str} {p : List Nat} {its : List Value} (h : Vals (plV nm p) its) : PyProof.Rows.tupItems sh0 0 its = some (plO nm p) := by
  unfold plV at h
  cases h with
  | cons a b =>
    obtain ⟨t, rfl⟩ := a
    unfold PyProof.Rows.tupItems
    rw [if_pos (show sh0 0 = true from rfl), it_ints p 0 b]; rfl
section
variable {X : Cx} {pins : List (Addr × Obj)} {σ : L2.St} {H : Hp} {s : Shared}
/-- what the sort sees of a place -/
theorem key_pl {u : Value} {nm : Str} {p : List Nat} (I : Inv X pins σ H s) (hT : PlT nm H (backV u) p) (hr : ∃ a, u = Value.ref a) :
    G.tupKeyC s.heap sh0 u = some (plO nm p) ∧ ∃ f, PyProof.Rows.TupOf s.heap sh0 u f := by
  obtain ⟨a, rfl⟩ := hr
  have h : Tp X.K H (backV (.ref a)) (plD nm p) := hT.tp
  obtain ⟨b, e, hs⟩ := tp_pl h
  cases e
  obtain ⟨its, r, ⟨o, ho, hc, n, hd⟩, hz⟩ := I.tuple hs
  refine ⟨?_, ?_⟩
  · unfold G.tupKeyC
    have e1 : G.isTupObj s.heap (.ref a) = true := by simp [G.isTupObj, ho, hc]
    rw [if_pos e1]
    simp only [PyProof.Rows.tupKey, ho, hd]
    exact it_pl r
  · unfold plV at r
    cases r with
    | cons r1 r2 =>
      obtain ⟨t, rfl⟩ := r1
      exact ⟨_, a, o, _, n, rfl, ho, hc, hd, rfl, fun z => (by cases z), fun _ => ⟨_, _, rfl⟩⟩
theorem tups_pl {nm : Str} (I : Inv X pins σ H s) : ∀ {us : List Value} {ps : List (List Nat)}, P2 (PlT nm H) (us.map backV) ps → (∀ u ∈ us, ∃ a, u = Value.ref a) → ∃ fs, PyProof.Rows.TupsOf s.heap sh0 us fs
  | [], _, _, _ => ⟨[], .nil⟩
  | u :: us, _, h, hr => by
    rw [List.map_cons] at h
    cases h with
    | cons a b =>
      obtain ⟨f, hf⟩ := (key_pl I a (hr u List.mem_cons_self)).2
      obtain ⟨fs, hfs⟩ := tups_pl I b fun v hv => hr v (List.mem_cons_of_mem _ hv)
      exact ⟨f :: fs, .cons hf hfs⟩
theorem P2.memL {α β : Type} {R : α → β → Prop} {l : List α} {m : List β} (h : P2 R l m) {a : α} (ha : a ∈ l) : ∃ b, b ∈ m ∧ R a b := by
  induction h with
  | nil => cases ha
  | cons r _ ih =>
    rcases List.mem_cons.mp ha with e | e
    · rw [e]; exact ⟨_, List.mem_cons_self, r⟩
    · obtain ⟨b, h1, h2⟩ := ih e
      exact ⟨b, List.mem_cons_of_mem _ h1, h2⟩
/-- what a sort of places tells -/
theorem srt_pl {nm : Str} {vs : List Value} {ps : List (List Nat)} {arr : Array Keyed} (I : Inv X pins σ H s) (h : P2 (PlT nm H) (vs.map backV) ps) (hr : ∀ u ∈ vs, ∃ a, u = Value.ref a)
    (hp : arr.Perm (pairsOf vs)) (hs : SortedToK (G.tupKindC s.heap sh0) arr (pairsOf vs).size) :
    ∃ qs, qs.Perm ps ∧ qs.Pairwise (leP nm) ∧ P2 (PlT nm H) ((arr.map (·.2)).toList.map backV) qs ∧ (∀ u ∈ (arr.map (·.2)).toList, ∃ a, u = Value.ref a) ∧ (arr.map (·.2)).toList.length = vs.length := by
  have pl : arr.toList.Perm (vs.zip vs) := by
    have e := Array.perm_iff_toList_perm.mp hp
    rwa [pairsOf_toList] at e
  have po : (arr.map (·.2)).toList.Perm vs := by
    rw [Array.toList_map]
    have z := pl.map Prod.snd
    rwa [List.map_snd_zip (Nat.le_refl _)] at z
  have hr2 : ∀ u ∈ (arr.map (·.2)).toList, ∃ a, u = Value.ref a := fun u hu => hr u (po.mem_iff.mp hu)
  obtain ⟨qs, q1, q2⟩ := P2.perm (po.symm.map backV) h
  refine ⟨qs, q1.symm, ?_, q2, hr2, po.length_eq⟩
  have hlen : qs.length = vs.length := by
    have := q2.len
    rw [List.length_map, po.length_eq] at this
    exact this.symm
  have key : ∀ (i : Nat) (q : List Nat), qs[i]? = some q → KK (G.tupKindC s.heap sh0) arr i = plO nm q := fun i q hq => by
    obtain ⟨v, hv, tv⟩ := q2.get hq
    rw [List.getElem?_map, Array.toList_map, List.getElem?_map, Array.getElem?_toList] at hv
    cases hk : arr[i]? with
    | none => rw [hk] at hv; cases hv
    | some kd =>
      rw [hk] at hv
      cases hv
      have hm : kd ∈ arr.toList := List.mem_of_getElem? (by rw [Array.getElem?_toList]; exact hk)
      obtain ⟨e1, e2⟩ := mem_zip_self (pl.mem_iff.mp hm)
      have tv : PlT nm H (backV kd.2) q := tv
      have := (key_pl I tv (by rw [← e1]; exact hr _ e2)).1
      unfold KK
      rw [hk]
      show (G.tupKeyC s.heap sh0 kd.1).getD _ = _
      rw [e1, this]; rfl
  rw [List.pairwise_iff_getElem]
  intro i j hi hj hij
  have := hs i j (Nat.le_of_lt hij) (by rw [pairsOf_size]; omega)
  rw [key i _ (List.getElem?_eq_getElem hi), key j _ (List.getElem?_eq_getElem hj)] at this
  exact this
end
section
variable {X : Cx}
/-- sorted(a list of places) -/
def rSortP (K : PySem.W.Frag) : List V → Hp → VK → Prop := fun vs H Q => ∃ (a : Addr) (us : List V) (nm : Str) (ps : List (List Nat)), vs = [V.ref a] ∧ SqL K H a us ∧ P2 (PlT nm H) us ps ∧
  ∀ (ys : List V) (qs : List (List Nat)) (p : Addr), qs.Perm ps → qs.Pairwise (leP nm) → P2 (PlT nm H) ys qs → H p = none → Q (.ref p) (upd H p (.lst ys))
theorem cr_sortP : CallR X (.builtin "sorted") (rSortP X.K) := by
  intro pins s σ H vs us Q I r h
  obtain ⟨a, xs, nm, ps, rfl, hs, ht, q⟩ := h
  obtain ⟨its, rv, hl, hz⟩ := I.list hs
  obtain ⟨u, rfl, ru⟩ := vals1 r
  obtain rfl : u = Value.ref a := ru
  have h2 := ht
  obtain ⟨e1, e2⟩ := refs_back rv fun x m => by
    obtain ⟨p, _, tp⟩ := h2.memL m
    obtain ⟨t, e, _⟩ := tp
    exact ⟨t, e⟩
  rw [e1] at h2
  obtain ⟨fs, hfs⟩ := tups_pl I h2 e2
  refine G.sorted_tups (shape := sh0) (fs := fs) hl.isList hfs (fun v hv => ?_) (by rw [← rv.length]; exact hz) fun st' hp hso _ => ?_
  · obtain ⟨p, _, tp⟩ := h2.memL (List.mem_map_of_mem (f := backV) hv)
    exact ⟨_, (key_pl I tp (e2 v hv)).1⟩
  · obtain ⟨qs, q1, q3, q4, q5, q6⟩ := srt_pl I h2 e2 hp hso
    obtain ⟨ep, he'⟩ := sortedAll_at s.heap its ((arrOf st').map (·.2))
    have hlen : (((arrOf st').map (·.2)).toList.map backV).length ≤ sizeLine := by
      rw [List.length_map, q6, ← rv.length]; exact hz
    refine ⟨.ref _, upd H (s.heap.objs.size + 1) (.lst (((arrOf st').map (·.2)).toList.map backV)), I.laid (t' := s.toks) (fun _ _ z => sortedAll_old z) (Nat.le_succ _) ⟨hlen, ((arrOf st').map (·.2)).toList, ep, vals_back q5, ?_⟩, rfl,
      q _ qs _ q1 q3 q4 (I.hok.fresh (Nat.le_succ _))⟩
    rw [Array.toArray_toList]; exact he'
/-- the keys of a dict of places -/
def KeysP (nm : Str) (kvs : List (List L2.Key × V)) (ps : List (List Nat)) : Prop := kvs.map (·.1) = ps.map (plK nm)
theorem p2_keys {nm : Str} {H : Hp} : ∀ {kvs : List (List L2.Key × V)} {ks : List (List L2.Key × Addr × Value)} {ps : List (List Nat)}, L2.KT H kvs ks → KeysP nm kvs ps → P2 (PlT nm H) ((ks.map fun x => Value.ref x.2.1).map backV) ps
  | [], _, ps, r, e => by
    cases r
    cases ps with
    | nil => exact .nil
    | cons _ _ => cases e
  | kv :: kvs, _, ps, r, e => by
    cases r with
    | cons h t =>
      cases ps with
      | nil => cases e
      | cons p ps =>
        unfold KeysP at e
        rw [List.map_cons, List.map_cons] at e
        obtain ⟨e1, e2⟩ := List.cons.inj e
        refine .cons ?_ (p2_keys t e2)
        have h2 := h.2.1
        rw [e1, plK_v] at h2
        exact ⟨_, rfl, h2⟩
/-- sorted(a dict of places) -/
def rSortDP : List V → Hp → VK → Prop := fun vs H Q => ∃ (a : Addr) (kvs : List (List L2.Key × V)) (nm : Str) (ps : List (List Nat)), vs = [V.ref a] ∧ H a = some (.dT kvs) ∧ KeysP nm kvs ps ∧
  ∀ (ys : List V) (qs : List (List Nat)) (p : Addr), qs.Perm ps → qs.Pairwise (leP nm) → P2 (PlT nm H) ys qs → H p = none → Q (.ref p) (upd H p (.lst ys))
theorem cr_sortDP (hcalm : X.calm = true) : CallR X (.builtin "sorted") rSortDP := by
  intro pins s σ H vs us Q I r h
  obtain ⟨d, kvs, nm, ps, rfl, hd, hk, q⟩ := h
  obtain ⟨u, rfl, ru⟩ := vals1 r
  obtain rfl : u = Value.ref d := ru
  obtain ⟨z, hs, ks, pr, o, es, ep, ho, hx, hdt, he, hn⟩ := (show ObjOk X.prog X.w H s.heap d (.dT kvs) from I.hok d _ hd)
  have l1 : es.size = ks.length := size_of_entries he
  have l2 : kvs.length = ks.length := Paired.length pr
  refine Calls.call_function_entry kind_sorted plain_sorted entry_sorted (args_sorted1 _) ?_
  unfold Builtin.«sorted»
  refine wpAny_bind (m := checkCount "sorted" 1 1 _) (wpAny_pure ?_)
  refine wpAny_bind (PySem.W.kdu_collect (A := X.A.in1) (kdl_raw hs hx hdt) (I.ok.hd hcalm) ho (by omega) fun h' tk acc kp it => ?_)
  have ea : acc.toList = ks.map fun x => Value.ref x.2.1 := by
    have hl : acc.toList.length = ks.length := by rw [Array.length_toList, it.1]; exact l1
    refine List.ext_getElem? fun j => ?_
    rw [List.getElem?_map]
    cases hj : acc.toList[j]? with
    | none =>
      have h1 := List.getElem?_eq_none_iff.mp hj
      rw [List.getElem?_eq_none (show ks.length ≤ j by omega)]; rfl
    | some v =>
      obtain ⟨en, hen, hv⟩ := it.2 j v (by rw [← Array.getElem?_toList]; exact hj)
      have qe := entry_at he j
      rw [hen] at qe
      cases hb : ks[j]? with
      | none => rw [hb] at qe; cases qe
      | some b =>
        rw [hb] at qe
        have e2 := Option.some.inj qe
        rw [hv, e2]; rfl
  have h2 : P2 (PlT nm H) (acc.toList.map backV) ps := by rw [ea]; exact p2_keys pr hk
  have e2 : ∀ u ∈ acc.toList, ∃ a, u = Value.ref a := fun u hu => by
    rw [ea] at hu
    obtain ⟨x, _, e⟩ := List.mem_map.mp hu
    exact ⟨_, e.symm⟩
  have hal : acc.toList.length ≤ sizeLine := by rw [ea, List.length_map]; omega
  have I1 : Inv X pins σ H { s with heap := h', toks := tk } := I.kept kp
  have I2 : Inv X pins σ H { s with heap := h'.push (seqObj "list" acc.toList.toArray 0), toks := tk } := I1.kept (t' := tk) fun b u e => Heap.get?_push_of_some _ e
  refine wpAny_bind (wpAny_newList ?_ hal)
  have hoL : (h'.push (seqObj "list" acc.toList.toArray 0)).get? h'.objs.size = some (seqObj "list" acc.toList.toArray 0) := Heap.get?_push_size _ rfl
  show wpAny _ _ _ _ _ { s with heap := h'.push (seqObj "list" acc.toList.toArray 0), toks := tk }
  obtain ⟨fs, hfs⟩ := tups_pl I2 h2 e2
  refine wpAny_bind (wpAny_holding (wpAny_call_entry slot_list_sort ⟨_, hoL, rfl⟩ entry_list_sort
    (G.list_sort_tups (s := { s with heap := h'.push (seqObj "list" acc.toList.toArray 0), toks := tk }) (shape := sh0) (fs := fs) hoL hfs (fun v hv => ?_) hal fun st' hp hso _ => ⟨_, rfl, ?_⟩) (args_list_sort _)))
  · obtain ⟨p, _, tp⟩ := h2.memL (List.mem_map_of_mem (f := backV) hv)
    exact ⟨_, (key_pl I2 tp (e2 v hv)).1⟩
  · obtain ⟨qs, q1, q3, q4, q5, q6⟩ := srt_pl I2 h2 e2 hp hso
    obtain ⟨e', he'⟩ := sortedHeap_at (vs := acc.toList) (out := (arrOf st').map (·.2)) hoL
    have hlen : (((arrOf st').map (·.2)).toList.map backV).length ≤ sizeLine := by
      rw [List.length_map, q6]; exact hal
    refine wpAny_pure ⟨_, rfl, .ref h'.objs.size, upd H h'.objs.size (.lst (((arrOf st').map (·.2)).toList.map backV)), I1.laid (t' := tk) (fun b u e => ?_) (Nat.le_refl _)
      (show ObjOk X.prog X.w _ _ _ (.lst (((arrOf st').map (·.2)).toList.map backV)) from ⟨hlen, ((arrOf st').map (·.2)).toList, e', vals_back q5, by rw [Array.toArray_toList]; exact he'⟩), rfl, q _ qs _ q1 q3 q4 (I1.hok.fresh (Nat.le_refl _))⟩
    have hb : b < h'.objs.size := Heap.lt_size e
    rw [sortedHeap_old (Nat.ne_of_lt hb) (by rw [size_push']; exact Nat.lt_succ_of_lt hb)]
    exact Heap.get?_push_of_some _ e
end
end Kk

namespace Kk
open PySem PySem.Spec PyProof.Rows L2
/-! data whose lists stand nowhere in S: what changes only S leaves it -/
mutual
inductive Da (K : PySem.W.Frag) (S : List Addr) (H : Hp) : V → PyData → Prop
  | non : Da K S H .non .none
  | bl (b : Bool) : Da K S H (.bl b) (.bool b)
  | int (i : Int) : Da K S H (.int i) (.int i)
  | str (x : Str) : Da K S H (.str x) (.str x)
  | lst {a : Addr} {xs : List V} {ds : List PyData} : a ∉ S → SqL K H a xs → DaAll K S H xs ds → Da K S H (.ref a) (.list ds)
  | tup {a : Addr} {xs : List V} {ds : List PyData} : SqT K H a xs → DaAll K S H xs ds → Da K S H (.ref a) (.tuple ds)
inductive DaAll (K : PySem.W.Frag) (S : List Addr) (H : Hp) : List V → List PyData → Prop
  | nil : DaAll K S H [] []
  | cons {v : V} {vs : List V} {d : PyData} {ds : List PyData} : Da K S H v d → DaAll K S H vs ds → DaAll K S H (v :: vs) (d :: ds)
end
section
variable {K : PySem.W.Frag} {S S' : List Addr} {H H' : Hp}
mutual
theorem Da.ex (e : Ex S' H H') (sub : ∀ b ∈ S', b ∈ S) : ∀ {v : V} {d : PyData}, Da K S H v d → Da K S H' v d
  | _, _, .non => .non
  | _, _, .bl b => .bl b
  | _, _, .int i => .int i
  | _, _, .str x => .str x
  | _, _, .lst n h r => .lst n (e.seqL h fun z => n (sub _ z)) (DaAll.ex e sub r)
  | _, _, .tup h r => .tup (e.seqT h) (DaAll.ex e sub r)
theorem DaAll.ex (e : Ex S' H H') (sub : ∀ b ∈ S', b ∈ S) : ∀ {vs : List V} {ds : List PyData}, DaAll K S H vs ds → DaAll K S H' vs ds
  | _, _, .nil => .nil
  | _, _, .cons h r => .cons (Da.ex e sub h) (DaAll.ex e sub r)
end
mutual
theorem Da.dp : ∀ {v : V} {d : PyData}, Da K S H v d → Dp K H v d
  | _, _, .non => .non
  | _, _, .bl b => .bl b
  | _, _, .int i => .int i
  | _, _, .str x => .str x
  | _, _, .lst _ h r => .lst h (DaAll.dp r)
  | _, _, .tup h r => .tup h (DaAll.dp r)
theorem DaAll.dp : ∀ {vs : List V} {ds : List PyData}, DaAll K S H vs ds → DpAll K H vs ds
  | _, _, .nil => .nil
  | _, _, .cons h r => .cons (Da.dp h) (DaAll.dp r)
end
mutual
theorem Da.less (sub : ∀ b ∈ S', b ∈ S) : ∀ {v : V} {d : PyData}, Da K S H v d → Da K S' H v d
  | _, _, .non => .non
  | _, _, .bl b => .bl b
  | _, _, .int i => .int i
  | _, _, .str x => .str x
  | _, _, .lst n h r => .lst (fun z => n (sub _ z)) h (DaAll.less sub r)
  | _, _, .tup h r => .tup h (DaAll.less sub r)
theorem DaAll.less (sub : ∀ b ∈ S', b ∈ S) : ∀ {vs : List V} {ds : List PyData}, DaAll K S H vs ds → DaAll K S' H vs ds
  | _, _, .nil => .nil
  | _, _, .cons h r => .cons (Da.less sub h) (DaAll.less sub r)
end
mutual
theorem Tp.da : ∀ {v : V} {d : PyData}, Tp K H v d → Da K S H v d
  | _, _, .non => .non
  | _, _, .bl b => .bl b
  | _, _, .int i => .int i
  | _, _, .str x => .str x
  | _, _, .tup h r => .tup h (TpAll.da r)
theorem TpAll.da : ∀ {vs : List V} {ds : List PyData}, TpAll K H vs ds → DaAll K S H vs ds
  | _, _, .nil => .nil
  | _, _, .cons h r => .cons (Tp.da h) (TpAll.da r)
end
theorem DaAll.len {vs : List V} {ds : List PyData} (h : DaAll K S H vs ds) : vs.length = ds.length := by
  induction vs generalizing ds with
  | nil => cases h; rfl
  | cons v vs ih => cases h with | cons a b => rw [List.length_cons, List.length_cons, ih b]
theorem DaAll.get {vs : List V} {ds : List PyData} (h : DaAll K S H vs ds) : ∀ {i : Nat} {v : V}, vs[i]? = some v → ∃ d, ds[i]? = some d ∧ Da K S H v d := by
  induction vs generalizing ds with
  | nil => intro i v e; simp at e
  | cons v0 vs ih =>
    cases h with
    | cons a b =>
      intro i v e
      cases i with
      | zero => cases e; exact ⟨_, rfl, a⟩
      | succ i => exact ih b (i := i) (by simpa using e)
theorem DaAll.app {vs us : List V} {ds es : List PyData} (h : DaAll K S H vs ds) (g : DaAll K S H us es) : DaAll K S H (vs ++ us) (ds ++ es) := by
  induction vs generalizing ds with
  | nil => cases h; exact g
  | cons v vs ih => cases h with | cons a b => exact .cons a (ih b)
theorem DaAll.take {vs : List V} {ds : List PyData} (h : DaAll K S H vs ds) : ∀ n, DaAll K S H (vs.take n) (ds.take n) := by
  induction vs generalizing ds with
  | nil => cases h; intro n; rw [List.take_nil, List.take_nil]; exact .nil
  | cons v vs ih =>
    cases h with
    | cons a b =>
      intro n
      cases n with
      | zero => exact .nil
      | succ n => exact .cons a (ih b n)
theorem DaAll.drop {vs : List V} {ds : List PyData} (h : DaAll K S H vs ds) : ∀ n, DaAll K S H (vs.drop n) (ds.drop n) := by
  induction vs generalizing ds with
  | nil => cases h; intro n; rw [List.drop_nil, List.drop_nil]; exact .nil
  | cons v vs ih =>
    cases h with
    | cons a b =>
      intro n
      cases n with
      | zero => exact .cons a b
      | succ n => exact ih b n
/-- a cut of a tuple -/
theorem da_cut {a : Addr} {xs : List V} {ds : List PyData} {lo hi : Option Int} {Q : VK} (hs : SqT K H a xs) (h : DaAll K S H xs ds)
    (q : ∀ p H' ys es, Ex [] H H' → SqT K H' p ys → DaAll K S H' ys es → es.length ≤ ds.length → (∀ d ∈ es, d ∈ ds) → Q (.ref p) H') : rSlA K (.ref a) lo hi H Q := by
  refine ⟨a, xs, rfl, hs, fun _ => q a H xs ds .refl hs h (Nat.le_refl _) fun _ z => z, fun _ p np => ?_⟩
  have x : Ex [] H (upd H p (.tup (cutV xs lo hi))) := .new np
  have hc : ∃ i j, cutV xs lo hi = (xs.drop i).take j := ⟨_, _, rfl⟩
  obtain ⟨i, j, e⟩ := hc
  refine q p _ (cutV xs lo hi) ((ds.drop i).take j) x (.of upd_same) ?_ ?_ ?_
  · rw [e] at x ⊢; exact ((h.drop i).take j).ex x fun _ z => by cases z
  · rw [List.length_take, List.length_drop]; omega
  · intro d m; exact List.mem_of_mem_drop (List.mem_of_mem_take m)
/-- two tuples, one behind the other -/
theorem da_cat {a b : Addr} {xs ys : List V} {ds es : List PyData} {Q : VK} (ha : SqT K H a xs) (hb : SqT K H b ys) (da : DaAll K S H xs ds) (db : DaAll K S H ys es) (hl : ds.length + es.length ≤ 1000)
    (q : ∀ p H' zs, Ex [] H H' → SqT K H' p zs → DaAll K S H' zs (ds ++ es) → Q (.ref p) H') : rCatA K (.ref a) (.ref b) H Q := by
  have l1 := da.len
  have l2 := db.len
  refine ⟨a, b, xs, ys, rfl, rfl, ha, hb, by rw [l1, l2]; exact Nat.le_trans hl (by decide), fun z => ?_, fun _ z => ?_, fun _ _ p np => ?_⟩
  · subst z; cases da; exact q b H ys .refl hb db
  · subst z; cases db; rw [List.append_nil] at q; exact q a H xs .refl ha da
  · exact q p _ _ (.new np) (.of upd_same) ((da.app db).ex (.new (xs := []) np) fun _ z => by cases z)
theorem tp_cat {a b : Addr} {xs ys : List V} {ds es : List PyData} {Q : VK} (ha : SqT K H a xs) (hb : SqT K H b ys) (da : TpAll K H xs ds) (db : TpAll K H ys es) (hl : ds.length + es.length ≤ 1000)
    (q : ∀ p H' zs, Ex [] H H' → SqT K H' p zs → TpAll K H' zs (ds ++ es) → Q (.ref p) H') : rCatA K (.ref a) (.ref b) H Q := by
  have l1 := da.len
  have l2 := db.len
  refine ⟨a, b, xs, ys, rfl, rfl, ha, hb, by rw [l1, l2]; exact Nat.le_trans hl (by decide), fun z => ?_, fun _ z => ?_, fun _ _ p np => ?_⟩
  · subst z; cases da; exact q b H ys .refl hb db
  · subst z; cases db; rw [List.append_nil] at q; exact q a H xs .refl ha da
  · exact q p _ _ (.new np) (.of upd_same) ((da.app db).ex (.new (xs := []) np))
end
section
variable {X : Cx} {K : PySem.W.Frag}
theorem yesA (n : Nat) : (List.range n).all (fun _ => true) = true := by simp
/-- a tuple held against () -/
theorem op_eqNilT (h : X.K = K) (hu : X.A.units + 64 < cLine) : OpR X (compareOp .Eq) (fun x y H Q => ∃ a b xs, x = .ref a ∧ y = .ref b ∧ SqT K H a xs ∧ SqT K H b [] ∧ Q (.bl xs.isEmpty) H) := by
  subst h
  intro pins s σ H x y v u Q I rx ry h
  obtain ⟨a, b, xs, rfl, rfl, ha, hb, q⟩ := h
  cases (show v = Value.ref a from rx)
  cases (show u = Value.ref b from ry)
  obtain ⟨its, r, pt, hz⟩ := I.tuple ha
  obtain ⟨its2, r2, pt2, hz2⟩ := I.tuple hb
  cases r2
  refine SeqAt.eq_tupleAt (e := fun _ => true) pt pt2 (by omega) (fun j h1 h2 => absurd h2 (Nat.not_lt_zero j)) ⟨.bl xs.isEmpty, H, I, ?_, q⟩
  rw [yesA]
  cases r with
  | nil => rfl
  | cons _ _ => simp; rfl
end
end Kk

namespace K48
open PySem PySem.Spec PyProof.Rows L2 Kk
/-! boxes: of rows (texts), of codes (a text and a number) -/
inductive Bx
  | s (z : Str)
  | q (z : Str) (n : Nat)
  deriving DecidableEq
def isS : Bx → Bool
  | .s _ => true
  | .q _ _ => false
def BxT (H : Hp) (v : V) : Bx → Prop
  | .s z => v = .str z
  | .q z n => ∃ t, v = .ref t ∧ H t = some (.tup [.str z, .int n])
theorem BxT.ex {H H' : Hp} {v : V} {b : Bx} {xs : List Addr} (h : BxT H v b) (e : Ex xs H H') : BxT H' v b := by
  cases b with
  | s z => exact h
  | q z n => obtain ⟨t, rfl, h⟩ := h; exact ⟨t, rfl, e.tup h⟩
/-! dicts of boxes to numbers -/
def kS : Bx → Key
  | .s z => .inr z
  | .q z _ => .inr z
def kT : Bx → List Key
  | .s z => [.inr z]
  | .q z n => [.inr z, .inl n]
def gtO (dv : List (Bx × Nat)) (b : Bx) : Option Nat := (dv.find? fun x => decide (x.1 = b)).map (·.2)
def ptB (dv : List (Bx × Nat)) (b : Bx) (n : Nat) : List (Bx × Nat) := if (dv.any fun x => decide (x.1 = b)) = true then dv.map (fun x => if x.1 = b then (x.1, n) else x) else dv ++ [(b, n)]
def gt (dv : List (Bx × Nat)) (b : Bx) : Nat := (gtO dv b).getD 0
theorem gtO_cons {x : Bx × Nat} {dv : List (Bx × Nat)} {b : Bx} : gtO (x :: dv) b = if x.1 = b then some x.2 else gtO dv b := by
  unfold gtO
  rw [List.find?_cons]
  by_cases h : x.1 = b <;> simp [h]
theorem gtO_any {b : Bx} : ∀ {dv : List (Bx × Nat)}, (dv.any fun x => decide (x.1 = b)) = (gtO dv b).isSome
  | [] => rfl
  | x :: r => by
    rw [List.any_cons, gtO_cons, gtO_any (dv := r)]
    by_cases h : x.1 = b <;> simp [h]
theorem gtO_app {b : Bx} {y : Bx × Nat} : ∀ {dv : List (Bx × Nat)}, gtO (dv ++ [y]) b = ((gtO dv b).or (if y.1 = b then some y.2 else none))
  | [] => by rw [List.nil_append, gtO_cons]; rfl
  | x :: r => by
    rw [List.cons_append, gtO_cons, gtO_cons, gtO_app (dv := r)]
    by_cases h : x.1 = b <;> simp [h]
theorem gtO_map {b c : Bx} {n : Nat} : ∀ {dv : List (Bx × Nat)}, gtO (dv.map fun x => if x.1 = b then (x.1, n) else x) c = if c = b then (gtO dv c).map (fun _ => n) else gtO dv c
  | [] => by split <;> rfl
  | x :: r => by
    rw [List.map_cons, gtO_cons, gtO_cons, gtO_map (dv := r)]
    by_cases h : x.1 = b
    · rw [if_pos h]
      by_cases h2 : x.1 = c
      · have h3 : c = b := h2.symm.trans h
        rw [if_pos h2, if_pos h3, if_pos h2]; rfl
      · rw [if_neg h2, if_neg h2]
    · rw [if_neg h]
      by_cases h2 : x.1 = c
      · have h3 : ¬ c = b := fun z => h (h2.trans z)
        rw [if_pos h2, if_neg h3, if_pos h2]
      · rw [if_neg h2, if_neg h2]
theorem gtO_pt {dv : List (Bx × Nat)} {b c : Bx} {n : Nat} : gtO (ptB dv b n) c = if c = b then some n else gtO dv c := by
  unfold ptB
  split
  · rename_i h
    rw [gtO_map]
    split
    · rename_i e
      rw [gtO_any, ← e] at h
      obtain ⟨x, hx⟩ := Option.isSome_iff_exists.mp h
      rw [hx]; rfl
    · rfl
  · rename_i h
    rw [gtO_app]
    rw [gtO_any] at h
    by_cases e : c = b
    · rw [if_pos e, if_pos e.symm]
      rw [e, Option.not_isSome_iff_eq_none.mp h]; rfl
    · rw [if_neg e, if_neg fun z => e z.symm]
      cases gtO dv c <;> rfl
theorem gt_pt {dv : List (Bx × Nat)} {b c : Bx} {n : Nat} : gt (ptB dv b n) c = if c = b then n else gt dv c := by
  unfold gt
  rw [gtO_pt]
  split <;> rfl
theorem ptB_len {dv : List (Bx × Nat)} {b : Bx} {n : Nat} : (ptB dv b n).length ≤ dv.length + 1 := by
  unfold ptB
  split
  · rw [List.length_map]; omega
  · rw [List.length_append]; exact Nat.le_refl _
theorem ptB_mem {dv : List (Bx × Nat)} {b : Bx} {n : Nat} {x : Bx × Nat} (h : x ∈ ptB dv b n) : x = (b, n) ∨ x ∈ dv := by
  unfold ptB at h
  split at h
  · obtain ⟨y, hy, rfl⟩ := List.mem_map.mp h
    split
    · rename_i e; exact .inl (by rw [← e])
    · exact .inr hy
  · rcases List.mem_append.mp h with h | h
    · exact .inr h
    · exact .inl (List.mem_singleton.mp h)
theorem gtO_mem {b : Bx} {n : Nat} : ∀ {dv : List (Bx × Nat)}, gtO dv b = some n → (b, n) ∈ dv
  | [], h => by cases h
  | x :: r, h => by
    rw [gtO_cons] at h
    split at h
    · rename_i e; cases h; rw [← e]; exact List.mem_cons_self
    · exact List.mem_cons_of_mem _ (gtO_mem h)
section
variable {κ : Type} [DecidableEq κ] (f : Bx → κ)
theorem valV_bx {q : Bx} : ∀ {dv : List (Bx × Nat)}, (∀ x ∈ dv, f x.1 = f q → x.1 = q) → valV (dv.map fun x => (f x.1, V.int x.2)) (f q) = (gtO dv q).map fun n => V.int n
  | [], _ => rfl
  | x :: r, h => by
    rw [List.map_cons, gtO_cons]
    by_cases e : x.1 = q
    · rw [valV_pos (by rw [e]), if_pos e]; rfl
    · rw [valV_neg fun z => e (h x List.mem_cons_self z), if_neg e, valV_bx fun y hy => h y (List.mem_cons_of_mem _ hy)]
theorem putK_bx {q : Bx} {n : Nat} {dv : List (Bx × Nat)} (h : ∀ x ∈ dv, f x.1 = f q → x.1 = q) : putK (dv.map fun x => (f x.1, V.int x.2)) (f q) (.int n) = (ptB dv q n).map fun x => (f x.1, V.int x.2) := by
  have ea : ((dv.map fun x => (f x.1, V.int x.2)).any fun kv => decide (kv.1 = f q)) = dv.any fun x => decide (x.1 = q) := by
    rw [valV_any, valV_bx f h, gtO_any]
    cases gtO dv q <;> rfl
  unfold putK ptB
  rw [ea]
  split
  · rw [List.map_map, List.map_map]
    refine List.map_congr_left fun x hx => ?_
    show (if f x.1 = f q then (f x.1, V.int n) else (f x.1, V.int x.2)) = _
    by_cases e : x.1 = q
    · rw [if_pos (by rw [e])]
      show _ = (fun x => (f x.1, V.int x.2)) (if x.1 = q then (x.1, n) else x)
      rw [if_pos e]
    · rw [if_neg fun z => e (h x hx z)]
      show _ = (fun x => (f x.1, V.int x.2)) (if x.1 = q then (x.1, n) else x)
      rw [if_neg e]
  · rw [List.map_append]; rfl
end
def BdH (H : Hp) (b : Addr) (tk : Bool) (dv : List (Bx × Nat)) : Prop := (∀ x ∈ dv, isS x.1 = tk) ∧ (match tk with
  | true => H b = some (.dK (dv.map fun x => (kS x.1, V.int x.2)))
  | false => H b = some (.dT (dv.map fun x => (kT x.1, V.int x.2))))
theorem BdH.ob {H : Hp} {b : Addr} {tk : Bool} {dv : List (Bx × Nat)} (h : BdH H b tk dv) : ∃ o, H b = some o ∧ NoTb o ∧ Fx o = false := by
  obtain ⟨_, h⟩ := h
  cases tk
  · exact ⟨_, h, (fun _ z => by cases z), rfl⟩
  · exact ⟨_, h, (fun _ z => by cases z), rfl⟩
theorem BdH.ex {H H' : Hp} {b : Addr} {tk : Bool} {dv : List (Bx × Nat)} {xs : List Addr} (h : BdH H b tk dv) (e : Ex xs H H') (m : b ∉ xs) : BdH H' b tk dv := by
  obtain ⟨h0, h⟩ := h
  refine ⟨h0, ?_⟩
  cases tk
  · exact e.a b _ m h (fun _ z => by cases z)
  · exact e.a b _ m h (fun _ z => by cases z)
theorem kS_inj {a b : Bx} (ha : isS a = true) (hb : isS b = true) (h : kS a = kS b) : a = b := by
  cases a with
  | s z => cases b with
    | s y => rw [show z = y from Sum.inr.inj h]
    | q _ _ => cases hb
  | q _ _ => cases ha
theorem kT_inj {a b : Bx} (ha : isS a = false) (hb : isS b = false) (h : kT a = kT b) : a = b := by
  cases a with
  | q z n => cases b with
    | q y m =>
      have h1 := (List.cons.inj h).1
      have h2 := (List.cons.inj (List.cons.inj h).2).1
      rw [show z = y from Sum.inr.inj h1, show n = m from Int.ofNat_inj.mp (Sum.inl.inj h2)]
    | s _ => cases hb
  | s _ => cases ha
theorem BdH.get {H : Hp} {b : Addr} {tk : Bool} {dv : List (Bx × Nat)} {q : Bx} {v : V} (h : BdH H b tk dv) (hq : isS q = tk) (hv : BxT H v q) : DGet H b v ((gtO dv q).map fun n => V.int n) := by
  obtain ⟨h0, h⟩ := h
  cases tk with
  | true =>
    cases q with
    | s z =>
      obtain rfl : v = .str z := hv
      have g : DGet H b (.str z) _ := DGet.k (k := .inr z) h
      have e := valV_bx kS (q := .s z) (dv := dv) fun x hx e => kS_inj (h0 x hx) rfl e
      exact e ▸ g
    | q _ _ => cases hq
  | false =>
    cases q with
    | q z n =>
      obtain ⟨t, rfl, ht⟩ := hv
      have g : DGet H b (.ref t) _ := DGet.t (k := [.inr z, .inl n]) h ht
      have e := valV_bx kT (q := .q z n) (dv := dv) fun x hx e => kT_inj (h0 x hx) rfl e
      exact e ▸ g
    | s _ => cases hq
theorem BdH.put {H : Hp} {b : Addr} {tk : Bool} {dv : List (Bx × Nat)} {q : Bx} {v : V} {n : Nat} (h : BdH H b tk dv) (hq : isS q = tk) (hv : BxT H v q) (hl : dv.length < sizeLine) : ∃ H', DPut H b v (.int n) H' ∧ Ex [b] H H' ∧ BdH H' b tk (ptB dv q n) := by
  obtain ⟨o, ho, hn, hf⟩ := h.ob
  obtain ⟨h0, h⟩ := h
  have h1 : ∀ x ∈ ptB dv q n, isS x.1 = tk := fun x hx => by
    rcases ptB_mem hx with rfl | hx
    · exact hq
    · exact h0 x hx
  cases tk with
  | true =>
    cases q with
    | s z =>
      obtain rfl : v = .str z := hv
      have e := putK_bx kS (q := .s z) (n := n) (dv := dv) fun x hx e => kS_inj (h0 x hx) rfl e
      refine ⟨_, DPut.k (k := .inr z) h (by rw [List.length_map]; exact hl), .put ho hn (by simp) hf, h1, ?_⟩
      show upd _ _ _ b = _
      rw [upd_same]
      exact congrArg (fun x => Option.some (HO.dK x)) e
    | q _ _ => cases hq
  | false =>
    cases q with
    | q z m =>
      obtain ⟨t, rfl, ht⟩ := hv
      have e := putK_bx kT (q := .q z m) (n := n) (dv := dv) fun x hx e => kT_inj (h0 x hx) rfl e
      refine ⟨_, DPut.t (k := [.inr z, .inl m]) h ht (by rw [List.length_map]; exact hl), .put ho hn (by simp) hf, h1, ?_⟩
      show upd _ _ _ b = _
      rw [upd_same]
      exact congrArg (fun x => Option.some (HO.dT x)) e
    | s _ => cases hq
theorem BdH.isD {H : Hp} {b : Addr} {tk : Bool} {dv : List (Bx × Nat)} (h : BdH H b tk dv) : IsD H b := by
  obtain ⟨_, h⟩ := h
  cases tk
  · exact .inr ⟨_, .inl h⟩
  · exact .inl ⟨_, .inl h⟩
/-! words of straight rows -/
inductive Wo
  | take (b : Bx) (s : Str)
  | ask (b : Bx)
  | number (b : Bx) (n : Int)
  | copy (b c : Bx)
  | mix (b c d : Bx)
  | opn (b c : Bx)
  | tell (b : Bx)
  | wipe (b : Bx)
def WoX (H : Hp) : Wo → List V → Prop
  | .take b s, xs => ∃ v, xs = [.str (Str.ofString "take"), v, .str s] ∧ BxT H v b
  | .ask b, xs => ∃ v, xs = [.str (Str.ofString "ask"), v] ∧ BxT H v b
  | .number b n, xs => ∃ v, xs = [.str (Str.ofString "number"), v, .int n] ∧ BxT H v b
  | .copy b c, xs => ∃ v u, xs = [.str (Str.ofString "copy"), v, u] ∧ BxT H v b ∧ BxT H u c
  | .mix b c d, xs => ∃ v u z, xs = [.str (Str.ofString "mix"), v, u, z] ∧ BxT H v b ∧ BxT H u c ∧ BxT H z d
  | .opn b c, xs => ∃ v u, xs = [.str (Str.ofString "open"), v, u] ∧ BxT H v b ∧ BxT H u c
  | .tell b, xs => ∃ v, xs = [.str (Str.ofString "tell"), v] ∧ BxT H v b
  | .wipe b, xs => ∃ v, xs = [.str (Str.ofString "wipe"), v] ∧ BxT H v b
def WoH (K : PySem.W.Frag) (H : Hp) (v : V) (W : Wo) : Prop := ∃ a xs, v = .ref a ∧ SqT K H a xs ∧ WoX H W xs
theorem WoX.ex {H H' : Hp} {ys : List Addr} (e : Ex ys H H') {W : Wo} {xs : List V} (h : WoX H W xs) : WoX H' W xs := by
  cases W with
  | take b s => obtain ⟨v, h1, h2⟩ := h; exact ⟨v, h1, h2.ex e⟩
  | ask b => obtain ⟨v, h1, h2⟩ := h; exact ⟨v, h1, h2.ex e⟩
  | number b n => obtain ⟨v, h1, h2⟩ := h; exact ⟨v, h1, h2.ex e⟩
  | copy b c => obtain ⟨v, u, h1, h2, h3⟩ := h; exact ⟨v, u, h1, h2.ex e, h3.ex e⟩
  | mix b c d => obtain ⟨v, u, z, h1, h2, h3, h4⟩ := h; exact ⟨v, u, z, h1, h2.ex e, h3.ex e, h4.ex e⟩
  | opn b c => obtain ⟨v, u, h1, h2, h3⟩ := h; exact ⟨v, u, h1, h2.ex e, h3.ex e⟩
  | tell b => obtain ⟨v, h1, h2⟩ := h; exact ⟨v, h1, h2.ex e⟩
  | wipe b => obtain ⟨v, h1, h2⟩ := h; exact ⟨v, h1, h2.ex e⟩
theorem WoH.ex {K : PySem.W.Frag} {H H' : Hp} {ys : List Addr} (e : Ex ys H H') {W : Wo} {v : V} (h : WoH K H v W) : WoH K H' v W := by
  obtain ⟨a, xs, rfl, h1, h2⟩ := h
  exact ⟨a, xs, rfl, e.seqT h1, h2.ex e⟩
def boxW : Wo → Bx
  | .take b _ => b
  | .ask b => b
  | .number b _ => b
  | .copy b _ => b
  | .mix b _ _ => b
  | .opn b _ => b
  | .tell b => b
  | .wipe b => b
def askB : Wo → List Bx
  | .copy _ c => [c]
  | .mix _ c d => [c, d]
  | .opn _ c => [c]
  | .tell b => [b]
  | _ => []
def KdW (tk : Bool) (W : Wo) : Prop := isS (boxW W) = tk ∧ ∀ b ∈ askB W, isS b = tk
/-! forms -/
inductive Fo
  | number (n : Int)
  | take (n : Nat)
  | ask (n : Nat)
  | mix (i j : Nat)
  | opn (i : Nat)
  deriving DecidableEq
def mkK : Fo → List Key
  | .number n => [.inr (Str.ofString "number"), .inl n]
  | .take n => [.inr (Str.ofString "take"), .inl n]
  | .ask n => [.inr (Str.ofString "ask"), .inl n]
  | .mix i j => [.inr (Str.ofString "mix"), .inl i, .inl j]
  | .opn i => [.inr (Str.ofString "open"), .inl i]
def mkV (m : Fo) : List V := (mkK m).map kV
theorem mkK_inj {a b : Fo} (h : mkK a = mkK b) : a = b := by
  have n1 : ∀ {x y : Str}, ¬ x = y → ∀ {r r' : List Key}, ¬ ((.inr x : Key) :: r) = .inr y :: r' := fun h _ _ z => h (Sum.inr.inj (List.cons.inj z).1)
  have t2 : ∀ {x : Key} {i j : Int}, ([x, .inl i] : List Key) = [x, .inl j] → i = j := fun h => Sum.inl.inj (List.cons.inj (List.cons.inj h).2).1
  cases a <;> cases b
  case number.number => rw [t2 h]
  case take.take => rw [Int.ofNat_inj.mp (t2 h)]
  case ask.ask => rw [Int.ofNat_inj.mp (t2 h)]
  case opn.opn => rw [Int.ofNat_inj.mp (t2 h)]
  case mix.mix =>
    have h1 := (List.cons.inj (List.cons.inj h).2)
    rw [Int.ofNat_inj.mp (Sum.inl.inj h1.1), Int.ofNat_inj.mp (Sum.inl.inj (List.cons.inj h1.2).1)]
  all_goals exact absurd h (n1 (by decide +kernel))
def ixG : Nat → List Fo → Fo → Option Nat
  | _, [], _ => none
  | k, a :: r, m => if a = m then some k else ixG (k + 1) r m
def knG : Nat → List Fo → List (List Key × V)
  | _, [] => []
  | k, a :: r => (mkK a, .int k) :: knG (k + 1) r
theorem knG_val {m : Fo} : ∀ {ms : List Fo} {k : Nat}, valV (knG k ms) (mkK m) = (ixG k ms m).map fun n => V.int n
  | [], _ => rfl
  | a :: r, k => by
    unfold knG ixG
    by_cases e : a = m
    · rw [valV_pos (by show mkK a = mkK m; rw [e]), if_pos e]; rfl
    · rw [valV_neg fun z => e (mkK_inj z), if_neg e, knG_val]
theorem knG_app {m : Fo} : ∀ {ms : List Fo} {k : Nat}, knG k (ms ++ [m]) = knG k ms ++ [(mkK m, .int (k + ms.length : Nat))]
  | [], _ => rfl
  | a :: r, k => by
    show (mkK a, V.int k) :: knG (k + 1) (r ++ [m]) = _
    rw [knG_app]
    show _ = (mkK a, V.int k) :: (knG (k + 1) r ++ [(mkK m, .int (k + (r.length + 1) : Nat))])
    rw [show k + 1 + r.length = k + (r.length + 1) by omega]
theorem knG_len : ∀ {ms : List Fo} {k : Nat}, (knG k ms).length = ms.length
  | [], _ => rfl
  | a :: r, k => by unfold knG; rw [List.length_cons, List.length_cons, knG_len]
theorem knG_put {m : Fo} {ms : List Fo} (h : ixG 0 ms m = none) : putK (knG 0 ms) (mkK m) (.int ms.length) = knG 0 (ms ++ [m]) := by
  unfold putK
  rw [valV_any, knG_val, h, knG_app, Nat.zero_add]
  rfl
theorem ixG_app {m a : Fo} : ∀ {ms : List Fo} {k : Nat}, ixG k (ms ++ [a]) m = (ixG k ms m).or (if a = m then some (k + ms.length) else none)
  | [], k => by show (if a = m then some k else none) = _; rfl
  | b :: r, k => by
    show (if b = m then some k else ixG (k + 1) (r ++ [a]) m) = (if b = m then some k else ixG (k + 1) r m).or _
    by_cases e : b = m
    · rw [if_pos e, if_pos e]; rfl
    · rw [if_neg e, if_neg e, ixG_app, List.length_cons, show k + 1 + r.length = k + (r.length + 1) by omega]
theorem ixG_lt {m : Fo} : ∀ {ms : List Fo} {k i : Nat}, ixG k ms m = some i → k ≤ i ∧ i < k + ms.length ∧ ms[i - k]? = some m
  | [], _, _, h => by cases h
  | a :: r, k, i, h => by
    unfold ixG at h
    split at h
    · rename_i e
      cases h
      refine ⟨Nat.le_refl _, by rw [List.length_cons]; omega, ?_⟩
      rw [Nat.sub_self, e]; rfl
    · obtain ⟨h1, h2, h3⟩ := ixG_lt h
      rw [List.length_cons]
      refine ⟨by omega, by omega, ?_⟩
      rw [show i - k = (i - (k + 1)) + 1 by omega]
      exact h3
def made (ms : List Fo) (m : Fo) : List Fo × Nat := match ixG 0 ms m with
  | some i => (ms, i)
  | none => (ms ++ [m], ms.length)
def keeps (ks : List Bool) : Fo → Bool
  | .take _ => true
  | .mix i j => ks.getD i false || ks.getD j false
  | _ => false
def kpt (ms : List Fo) : List Bool := ms.foldl (fun ks m => ks ++ [keeps ks m]) []
theorem kpt_app {ms : List Fo} {m : Fo} : kpt (ms ++ [m]) = kpt ms ++ [keeps (kpt ms) m] := by
  unfold kpt; rw [List.foldl_append]; rfl
theorem kpt_len (ms : List Fo) : (kpt ms).length = ms.length := by
  have : ∀ (n : Nat) (ms : List Fo), ms.length = n → (kpt ms).length = n := by
    intro n
    induction n with
    | zero => intro ms h; rw [List.length_eq_zero_iff.mp h]; rfl
    | succ n ih =>
      intro ms h
      rcases List.eq_nil_or_concat ms with e | ⟨r, a, e⟩
      · rw [e] at h; cases h
      · rw [List.concat_eq_append] at e
        rw [e, kpt_app, List.length_append, ih r (by rw [e, List.length_append] at h; simpa using h)]; rfl
  exact this _ ms rfl
/-- what a making is made of is there -/
def MkOk (n : Nat) : Fo → Prop
  | .mix i j => i < n ∧ j < n
  | .opn i => i < n
  | _ => True
def MkT (H : Hp) (v : V) (m : Fo) : Prop := ∃ t, v = .ref t ∧ H t = some (.tup (mkV m))
theorem MkT.ex {H H' : Hp} {v : V} {m : Fo} {xs : List Addr} (h : MkT H v m) (e : Ex xs H H') : MkT H' v m := by
  obtain ⟨t, rfl, h⟩ := h; exact ⟨t, rfl, e.tup h⟩
/-- forms, as they stand: the list of makings, the dict, the list of what keeps a worth -/
structure FmG (CM : Addr) (H : Hp) (fm mk kn kp : Addr) (ms : List Fo) (zs : Option V) : Prop where
  i : ∃ dx fs, H fm = some (.ins CM dx fs) ∧ fs.lookup ("makings" : Str) = some (.ref mk) ∧ fs.lookup ("known" : Str) = some (.ref kn) ∧ fs.lookup ("kept" : Str) = some (.ref kp) ∧ fs.lookup ("zero" : Str) = zs ∧ fs.lookup ("made" : Str) = none ∧ fs.lookup ("keeps" : Str) = none ∧ fs.length ≤ 10
  m : ∃ vs, H mk = some (.lst vs) ∧ P2 (MkT H) vs ms
  k : H kn = some (.dT (knG 0 ms))
  p : H kp = some (.lst ((kpt ms).map V.bl))
  n : mk ≠ kp
theorem FmG.ex {CM : Addr} {H H' : Hp} {fm mk kn kp : Addr} {ms : List Fo} {zs : Option V} {xs : List Addr} (h : FmG CM H fm mk kn kp ms zs) (e : Ex xs H H') (m0 : fm ∉ xs) (m1 : mk ∉ xs) (m2 : kn ∉ xs) (m3 : kp ∉ xs) : FmG CM H' fm mk kn kp ms zs := by
  obtain ⟨⟨dx, fs, h1, r⟩, ⟨vs, h2, h3⟩, h4, h5, h6⟩ := h
  exact ⟨⟨dx, fs, e.a fm _ m0 h1 (fun _ z => by cases z), r⟩, ⟨vs, e.lst h2 m1, h3.imp fun _ _ q => q.ex e⟩, e.a kn _ m2 h4 (fun _ z => by cases z), e.lst h5 m3, h6⟩
theorem FmG.nil {CM : Addr} {H H' : Hp} {fm mk kn kp : Addr} {ms : List Fo} {zs : Option V} (h : FmG CM H fm mk kn kp ms zs) (e : Ex [] H H') : FmG CM H' fm mk kn kp ms zs := h.ex e (by simp) (by simp) (by simp) (by simp)
abbrev FmH (CM : Addr) (H : Hp) (fm mk kn kp : Addr) (ms : List Fo) : Prop := FmG CM H fm mk kn kp ms (some (.int 0))
structure TM (K : PySem.W.Frag) (mg : Str → Option Value) (CM : Addr) : Prop where
  cl : Cls K CM
  n0 : NoAttr K CM "makings"
  n1 : NoAttr K CM "known"
  n2 : NoAttr K CM "kept"
  n3 : NoAttr K CM "zero"
  mgC : mg "Forms" = some (.ref CM)
end K48

namespace K48
open PySem PySem.Spec PyProof.Rows L2 Kk
abbrev s_finit : Stmt := inClass (topS 25) 0
abbrev s_made : Stmt := inClass (topS 25) 1
abbrev s_keeps : Stmt := inClass (topS 25) 2
theorem sc_finit : FnScope ["self"] ["self"] (defScope s_finit) := ⟨rfl, rfl, rfl, by decide +kernel, rfl, by decide +kernel, by decide +kernel⟩
theorem sc_made : FnScope ["self", "making"] ["self", "making"] (defScope s_made) := ⟨rfl, rfl, rfl, by decide +kernel, rfl, by decide +kernel, by decide +kernel⟩
theorem sc_keeps : FnScope ["self", "making"] ["self", "making"] (defScope s_keeps) := ⟨rfl, rfl, rfl, by decide +kernel, rfl, by decide +kernel, by decide +kernel⟩
theorem sN {a b : Str} (h : ¬ a = b) {A B : Prop} (x : B) : if decide (V.str a = V.str b) = true then A else B := by
  rw [if_neg fun e => h (V.str.inj (of_decide_eq_true e))]; exact x
theorem sY {a : Str} {A B : Prop} (x : A) : if decide (V.str a = V.str a) = true then A else B := by
  rw [if_pos (decide_eq_true rfl)]; exact x
theorem at1 {α : Type} {x y : α} {xs : List α} : atI (x :: y :: xs) 1 = some y := atI_nat (j := 1) rfl
theorem at2 {α : Type} {x y z : α} {xs : List α} : atI (x :: y :: z :: xs) 2 = some z := atI_nat (j := 2) rfl
theorem at3 {α : Type} {x y z u : α} {xs : List α} : atI (x :: y :: z :: u :: xs) 3 = some u := atI_nat (j := 3) rfl
theorem lenF (f : Str) (v : V) {fs : List (Str × V)} {n : Nat} (h : fs.length ≤ n) : (putF f v fs).length ≤ n + 1 := Nat.le_trans (length_putF f v fs) (by omega)
theorem ks_at {ks : List Bool} {i : Nat} (h : i < ks.length) : (ks.map V.bl)[i]? = some (.bl (ks.getD i false)) := by
  rw [List.getElem?_map, List.getD_eq_getElem?_getD, List.getElem?_eq_getElem h]; rfl
theorem ex_onto {H H1 H' : Hp} {xs ys : List Addr} (n : ∀ b ∈ ys, b ∈ xs ∨ H b = none) (e : Ex xs H H1) (a : Ex ys H1 H') : Ex xs H H' :=
  ⟨fun b o nb h t => a.a b o (fun m => (n b m).elim nb (fun z => by rw [z] at h; cases h)) (e.a b o nb h t) t, fun b o h g => a.c b o (e.c b o h g) g, fun b h => a.t b (e.t b h), fun b h => e.f b (a.f b h)⟩
section
variable {P : Program} {w : World} {K : PySem.W.Frag} {mg : Str → Option Value} {base : Heap}
def spKeeps (CM : Addr) : Sp := fun vs H Q _ => ∃ (fm kp dx : Addr) (v : V) (m : Fo) (ks : List Bool) (fs : List (Str × V)), vs = [.ref fm, v] ∧ H fm = some (.ins CM dx fs) ∧ fs.lookup ("kept" : Str) = some (.ref kp) ∧ H kp = some (.lst (ks.map V.bl)) ∧ MkT H v m ∧ MkOk ks.length m ∧ Q (.bl (keeps ks m)) H
theorem ok_keeps {f CM : Addr} {fd : FuncData} {k : Nat} (F : Fun K "keeps" "Forms.keeps" s_keeps f fd) (T : TM K mg CM) : FnOk P w K mg base CX0 (k + 1) f fd ["self", "making"] (spKeeps CM) := by
  refine F.ok sc_keeps (fun vs H Q E h => ?_) (fun cdv A outer s H vs Q E hr h => ?_)
  · obtain ⟨fm, kp, dx, v, m, ks, fs, rfl, _⟩ := h; rfl
  · obtain ⟨fm, kp, dx, v, m, ks, fs, rfl, hf, hk, hp, ⟨t, rfl, ht⟩, mo, q⟩ := h
    refine ⟨_, (pss_cons (ps_if (pt_cmpR op_eq (pe_ix ix_tup (pv 1) pe_int (fun _ _ => rfl)) pe_str (nomark _)) (pss_one (ps_ret (pe_or (pe_ix ix_list (pe_fld (pv 0) rfl) (pe_ix ix_tup (pv 1) pe_int (fun _ _ => rfl)) (fun _ _ => rfl)) (pe_one (pe_ix ix_list (pe_fld (pv 0) rfl) (pe_ix ix_tup (pv 1) pe_int (fun _ _ => rfl)) (fun _ _ => rfl)))))) pss_nil)
      (pss_one (ps_ret (pe_cmpR op_eq (pe_ix ix_tup (pv 1) pe_int (fun _ _ => rfl)) pe_str (nomark _))))), ?_⟩
    cases m with
    | mix i j =>
      obtain ⟨hi, hj⟩ := mo
      refine ⟨.ref t, rfl, t, _, 0, _, rfl, rfl, .of ht, at0, rfl, _, rfl, sY ?_⟩
      refine ⟨.ref fm, rfl, fm, CM, dx, fs, .ref kp, rfl, hf, T.cl, T.n2, hk, .ref t, rfl, t, _, 1, _, rfl, rfl, .of ht, at1, kp, _, i, .bl (ks.getD i false), rfl, rfl, .of hp, atI_nat (ks_at hi), ?_⟩
      have e : keeps ks (.mix i j) = (ks.getD i false || ks.getD j false) := rfl
      rw [e] at q
      refine ⟨_, rfl, ?_⟩
      cases h1 : ks.getD i false with
      | true =>
        rw [h1] at q
        exact iteT q
      | false =>
        rw [h1] at q
        refine iteF ?_
        refine ⟨.ref fm, rfl, fm, CM, dx, fs, .ref kp, rfl, hf, T.cl, T.n2, hk, .ref t, rfl, t, _, 2, _, rfl, rfl, .of ht, at2, kp, _, j, .bl (ks.getD j false), rfl, rfl, .of hp, atI_nat (ks_at hj), ?_⟩
        exact q
    | take n =>
      refine ⟨.ref t, rfl, t, _, 0, _, rfl, rfl, .of ht, at0, rfl, _, rfl, sN (by decide +kernel) ?_⟩
      exact ⟨.ref t, rfl, t, _, 0, _, rfl, rfl, .of ht, at0, rfl, q⟩
    | number n =>
      refine ⟨.ref t, rfl, t, _, 0, _, rfl, rfl, .of ht, at0, rfl, _, rfl, sN (by decide +kernel) ?_⟩
      refine ⟨.ref t, rfl, t, _, 0, _, rfl, rfl, .of ht, at0, rfl, ?_⟩
      rw [decide_eq_false (by decide +kernel)]; exact q
    | ask n =>
      refine ⟨.ref t, rfl, t, _, 0, _, rfl, rfl, .of ht, at0, rfl, _, rfl, sN (by decide +kernel) ?_⟩
      refine ⟨.ref t, rfl, t, _, 0, _, rfl, rfl, .of ht, at0, rfl, ?_⟩
      rw [decide_eq_false (by decide +kernel)]; exact q
    | opn n =>
      refine ⟨.ref t, rfl, t, _, 0, _, rfl, rfl, .of ht, at0, rfl, _, rfl, sN (by decide +kernel) ?_⟩
      refine ⟨.ref t, rfl, t, _, 0, _, rfl, rfl, .of ht, at0, rfl, ?_⟩
      rw [decide_eq_false (by decide +kernel)]; exact q
def spMade (CM : Addr) : Sp := fun vs H Q _ => ∃ (fm mk kn kp : Addr) (v : V) (m : Fo) (ms : List Fo) (zs : Option V), vs = [.ref fm, v] ∧ FmG CM H fm mk kn kp ms zs ∧ MkT H v m ∧ MkOk ms.length m ∧ ms.length ≤ 5000 ∧
  ∀ H', Ex [mk, kn, kp] H H' → FmG CM H' fm mk kn kp (made ms m).1 zs → Q (.int (made ms m).2) H'
theorem FmG.ne {CM : Addr} {H : Hp} {fm mk kn kp : Addr} {ms : List Fo} {zs : Option V} (h : FmG CM H fm mk kn kp ms zs) : fm ≠ mk ∧ fm ≠ kn ∧ fm ≠ kp ∧ mk ≠ kn ∧ mk ≠ kp ∧ kn ≠ kp := by
  obtain ⟨⟨dx, fs, h1, r⟩, ⟨vs, h2, h3⟩, h4, h5, n⟩ := h
  exact ⟨ne_of h1 h2 (by intro z; cases z), ne_of h1 h4 (by intro z; cases z), ne_of h1 h5 (by intro z; cases z), ne_of h2 h4 (by intro z; cases z), n, ne_of h4 h5 (by intro z; cases z)⟩
theorem putF_len {f : Str} {v : V} : ∀ {fs : List (Str × V)}, fs.lookup f ≠ none → (putF f v fs).length = fs.length
  | [], h => absurd rfl h
  | (g, x) :: r, h => by
    unfold putF
    by_cases e : g = f
    · rw [if_pos e]; rfl
    · rw [if_neg e, List.length_cons, List.length_cons, putF_len (fs := r) ?_]
      intro z
      refine h ?_
      rw [List.lookup_cons]
      have : (f == g) = false := by
        cases q : f == g with
        | false => rfl
        | true => exact absurd (eq_of_beq q).symm e
      rw [this]; exact z
theorem ok_made {f CM fK : Addr} {fd fdK : FuncData} {k : Nat} (F : Fun K "made" "Forms.made" s_made f fd) (T : TM K mg CM) (GK : FnOk P w K mg base CX0 k fK fdK ["self", "making"] (spKeeps CM)) (mK : Meth K CM "keeps" fK) (bK : Binds K fdK ["self", "making"] [])
    (m_len : mg "len" = none) : FnOk P w K mg base CX0 (k + 1) f fd ["self", "making"] (spMade CM) := by
  refine F.ok sc_made (fun vs H Q E h => ?_) (fun cdv A outer s H vs Q E hr h => ?_)
  · obtain ⟨fm, mk, kn, kp, v, m, ms, zs, rfl, _⟩ := h; rfl
  · obtain ⟨fm, mk, kn, kp, v, m, ms, zs, rfl, hF, ⟨t, rfl, ht⟩, mo, hl, q⟩ := h
    refine ⟨_, (pss_cons (ps_if (pt_cmp (pc_dnotin (hu_of hr) (pv 1) (pe_fld (pv 0) rfl))) (pss_cons (ps_dput (hu_of hr) (pe_fld (pv 0) rfl) (pv 1) (pe_callB call_len_seq (by rfl) m_len PySem.boot_len (pa_cons (pe_fld (pv 0) rfl) pa_nil)) rfl)
      (pss_cons (ps_expr (pe_bm PySem.F.plainAttrs_list PySem.F.slot_list_append PySem.F.type_list_append mt_append (pe_fld (pv 0) rfl) (pa_cons (pv 1) pa_nil)))
      (pss_one (ps_expr (pe_bm PySem.F.plainAttrs_list PySem.F.slot_list_append PySem.F.type_list_append mt_append (pe_fld (pv 0) rfl) (pa_cons (pe_meth (pv 0) T.cl mK GK hr bK .nil pass0 (pa_cons (pv 1) pa_nil)) pa_nil)))))) pss_nil)
      (pss_one (ps_ret (pe_dget (hu_of hr) (pe_fld (pv 0) rfl) (pv 1) (fun _ _ => rfl))))), ?_⟩
    obtain ⟨n1, n2, n3, n4, n5, n6⟩ := hF.ne
    obtain ⟨⟨dx, fs, h1, l1, l2, l3, l4, l5, l6, l7⟩, ⟨vs, h2, h3⟩, h4, h5, hz⟩ := hF
    have g1 : DGet H kn (.ref t) (valV (knG 0 ms) (mkK m)) := DGet.t (k := mkK m) h4 ht
    rw [knG_val] at g1
    refine ⟨.ref t, rfl, .ref fm, rfl, fm, CM, dx, fs, .ref kn, rfl, h1, T.cl, T.n1, l2, kn, _, rfl, g1, _, rfl, ?_⟩
    cases e : ixG 0 ms m with
    | some i =>
      rw [e] at g1
      have em : made ms m = (ms, i) := by unfold made; rw [e]
      rw [em] at q
      refine iteF ?_
      exact ⟨.ref fm, rfl, fm, CM, dx, fs, .ref kn, rfl, h1, T.cl, T.n1, l2, .ref t, rfl, kn, _, rfl, g1, q _ .refl ⟨⟨dx, fs, h1, l1, l2, l3, l4, l5, l6, l7⟩, ⟨vs, h2, h3⟩, h4, h5, hz⟩⟩
    | none =>
      have em : made ms m = (ms ++ [m], ms.length) := by unfold made; rw [e]
      rw [em] at q
      refine iteT ?_
      have lv : vs.length = ms.length := h3.len
      refine ⟨.ref fm, rfl, fm, CM, dx, fs, .ref mk, rfl, h1, T.cl, T.n0, l1, mk, vs, rfl, .inl (.of h2), .ref fm, rfl, fm, CM, dx, fs, .ref kn, rfl, h1, T.cl, T.n1, l2, .ref t, rfl, kn, _, rfl, DPut.t (k := mkK m) h4 ht (by rw [knG_len]; exact Nat.lt_of_le_of_lt hl (by decide)), ?_⟩
      rw [lv, knG_put e]
      have x1 : Ex [mk, kn, kp] H (upd H kn (.dT (knG 0 (ms ++ [m])))) := .put h4 (fun _ z => by cases z) (by simp)
      have a1 : (upd H kn (.dT (knG 0 (ms ++ [m])))) fm = some (.ins CM dx fs) := by rw [upd_ne n2]; exact h1
      have a2 : (upd H kn (.dT (knG 0 (ms ++ [m])))) mk = some (.lst vs) := by rw [upd_ne n4]; exact h2
      have a3 : (upd H kn (.dT (knG 0 (ms ++ [m])))) kp = some (.lst ((kpt ms).map V.bl)) := by rw [upd_ne n6.symm]; exact h5
      have a4 : (upd H kn (.dT (knG 0 (ms ++ [m])))) kn = some (.dT (knG 0 (ms ++ [m]))) := upd_same
      generalize upd H kn (.dT (knG 0 (ms ++ [m]))) = H1 at x1 a1 a2 a3 a4 ⊢
      refine ⟨.ref fm, rfl, fm, CM, dx, fs, .ref mk, rfl, a1, T.cl, T.n0, l1, .inl ⟨rfl, _, .of a2⟩, .ref t, rfl, mk, vs, .ref t, rfl, rfl, a2, Nat.lt_of_le_of_lt (show vs.length ≤ 5000 by omega) (by decide), ?_⟩
      have x2 : Ex [mk, kn, kp] H1 (upd H1 mk (.lst (vs ++ [.ref t]))) := .put a2 nt_lst (by simp)
      have b1 : (upd H1 mk (.lst (vs ++ [.ref t]))) fm = some (.ins CM dx fs) := by rw [upd_ne n1]; exact a1
      have b2 : (upd H1 mk (.lst (vs ++ [.ref t]))) mk = some (.lst (vs ++ [.ref t])) := upd_same
      have b3 : (upd H1 mk (.lst (vs ++ [.ref t]))) kp = some (.lst ((kpt ms).map V.bl)) := by rw [upd_ne n5.symm]; exact a3
      have b4 : (upd H1 mk (.lst (vs ++ [.ref t]))) kn = some (.dT (knG 0 (ms ++ [m]))) := by rw [upd_ne n4.symm]; exact a4
      generalize upd H1 mk (.lst (vs ++ [.ref t])) = H2 at x2 b1 b2 b3 b4 ⊢
      have x12 := x1.trans x2
      have ht2 : H2 t = some (.tup (mkV m)) := x12.tup ht
      refine ⟨.ref fm, rfl, fm, CM, dx, fs, .ref kp, rfl, b1, T.cl, T.n2, l3, .inl ⟨rfl, _, .of b3⟩, .ref fm, rfl, fm, dx, fs, rfl, b1, l6, .ref t, rfl, fm, kp, dx, .ref t, m, kpt ms, fs, rfl, b1, l3, b3, ⟨t, rfl, ht2⟩, by rw [kpt_len]; exact mo, ?_⟩
      refine ⟨kp, _, .bl (keeps (kpt ms) m), rfl, rfl, b3, by rw [List.length_map, kpt_len]; exact Nat.lt_of_le_of_lt hl (by decide), ?_⟩
      have e3 : (kpt ms).map V.bl ++ [.bl (keeps (kpt ms) m)] = (kpt (ms ++ [m])).map V.bl := by rw [kpt_app, List.map_append]; rfl
      rw [e3]
      have x3 : Ex [mk, kn, kp] H2 (upd H2 kp (.lst ((kpt (ms ++ [m])).map V.bl))) := .put b3 nt_lst (by simp)
      have c1 : (upd H2 kp (.lst ((kpt (ms ++ [m])).map V.bl))) fm = some (.ins CM dx fs) := by rw [upd_ne n3]; exact b1
      have c2 : (upd H2 kp (.lst ((kpt (ms ++ [m])).map V.bl))) mk = some (.lst (vs ++ [.ref t])) := by rw [upd_ne n5]; exact b2
      have c4 : (upd H2 kp (.lst ((kpt (ms ++ [m])).map V.bl))) kn = some (.dT (knG 0 (ms ++ [m]))) := by rw [upd_ne n6]; exact b4
      have c3 : (upd H2 kp (.lst ((kpt (ms ++ [m])).map V.bl))) kp = some (.lst ((kpt (ms ++ [m])).map V.bl)) := upd_same
      generalize upd H2 kp (.lst ((kpt (ms ++ [m])).map V.bl)) = H3 at x3 c1 c2 c3 c4 ⊢
      have x13 := x12.trans x3
      have g3 : DGet H3 kn (.ref t) (valV (knG 0 (ms ++ [m])) (mkK m)) := DGet.t (k := mkK m) c4 (x13.tup ht)
      rw [knG_val, ixG_app, e, if_pos rfl, Nat.zero_add] at g3
      refine ⟨.ref fm, rfl, fm, CM, dx, fs, .ref kn, rfl, c1, T.cl, T.n1, l2, .ref t, rfl, kn, _, rfl, g3, q _ x13 ⟨⟨dx, fs, c1, l1, l2, l3, l4, l5, l6, l7⟩, ⟨_, c2, ?_⟩, c4, c3, hz⟩⟩
      exact (h3.imp fun _ _ h => h.ex x13).app (.cons ⟨t, rfl, x13.tup ht⟩ .nil)
def spFoInit (CM : Addr) : Sp := fun vs H Q _ => ∃ (p dx : Addr), vs = [.ref p] ∧ H p = some (.ins CM dx []) ∧ ∀ (H' : Hp) (mk kn kp : Addr), Ex [p] H H' → H mk = none → H kn = none → H kp = none → FmH CM H' p mk kn kp [.number 0] → Q .non H'
theorem ok_foinit {f CM fM : Addr} {fd fdM : FuncData} {k : Nat} (F : Fun K "__init__" "Forms.__init__" s_finit f fd) (T : TM K mg CM) (GM : FnOk P w K mg base CX0 k fM fdM ["self", "making"] (spMade CM)) (mM : Meth K CM "made" fM) (bM : Binds K fdM ["self", "making"] []) : FnOk P w K mg base CX0 (k + 1) f fd ["self"] (spFoInit CM) := by
  refine F.ok sc_finit (fun vs H Q E h => ?_) (fun cdv A outer s H vs Q E hr h => ?_)
  · obtain ⟨p, dx, rfl, _⟩ := h; rfl
  · obtain ⟨p, dx, rfl, hp, q⟩ := h
    refine ⟨_, (pss_cons (ps_fld (pv 0) (pe_lst pa_nil) rfl)
      (pss_cons (ps_fld (pv 0) pe_dnewT rfl)
      (pss_cons (ps_fld (pv 0) (pe_lst pa_nil) rfl)
      (pss_one (ps_fld (pv 0) (pe_meth (pv 0) T.cl mM GM hr bM .nil pass0 (pa_cons (pe_tup (pa_cons pe_str (pa_cons pe_int pa_nil))) pa_nil)) rfl))))), ?_⟩
    have put : ∀ {H1 : Hp} {fs fs' : List (Str × V)}, H1 p = some (.ins CM dx fs) → Ex [p] H1 (upd H1 p (.ins CM dx fs')) := fun h => .put h (fun _ z => by cases z) (by simp)
    have l0 : (([] : List (Str × V))).length ≤ 0 := Nat.le_refl _
    refine ⟨Nat.zero_le _, fun a na => ?_⟩
    have pa : p ≠ a := ne_of_none hp na
    refine ⟨.ref p, rfl, p, CM, dx, [], rfl, by rw [upd_ne pa]; exact hp, T.cl, T.n0, (by show 0 < 1000; decide), ?_⟩
    have l1 := lenF "makings" (.ref a) l0
    have x1 : Ex [p] H (upd (upd H a (.lst [])) p (.ins CM dx (putF "makings" (.ref a) []))) := (Ex.new na).trans (put (by rw [upd_ne pa]; exact hp))
    have h1 : (upd (upd H a (.lst [])) p (.ins CM dx (putF "makings" (.ref a) []))) p = some (.ins CM dx (putF "makings" (.ref a) [])) := upd_same
    have h1a : (upd (upd H a (.lst [])) p (.ins CM dx (putF "makings" (.ref a) []))) a = some (.lst []) := by rw [upd_ne pa.symm]; exact upd_same
    generalize upd (upd H a (.lst [])) p (.ins CM dx (putF "makings" (.ref a) [])) = H1 at x1 h1 h1a ⊢
    refine fun b nb => ?_
    have pb : p ≠ b := ne_of_none h1 nb
    have ab : a ≠ b := ne_of_none h1a nb
    refine ⟨.ref p, rfl, p, CM, dx, _, rfl, by rw [upd_ne pb]; exact h1, T.cl, T.n1, by omega, ?_⟩
    have l2 := lenF "known" (.ref b) l1
    have x2 : Ex [p] H1 (upd (upd H1 b (.dT [])) p (.ins CM dx (putF "known" (.ref b) (putF "makings" (.ref a) [])))) := (Ex.new nb).trans (put (by rw [upd_ne pb]; exact h1))
    have h2 : (upd (upd H1 b (.dT [])) p (.ins CM dx (putF "known" (.ref b) (putF "makings" (.ref a) [])))) p = some (.ins CM dx (putF "known" (.ref b) (putF "makings" (.ref a) []))) := upd_same
    have h2a : (upd (upd H1 b (.dT [])) p (.ins CM dx (putF "known" (.ref b) (putF "makings" (.ref a) [])))) a = some (.lst []) := by rw [upd_ne pa.symm, upd_ne ab]; exact h1a
    have h2b : (upd (upd H1 b (.dT [])) p (.ins CM dx (putF "known" (.ref b) (putF "makings" (.ref a) [])))) b = some (.dT []) := by rw [upd_ne pb.symm]; exact upd_same
    have nb0 : H b = none := x1.f _ nb
    generalize upd (upd H1 b (.dT [])) p (.ins CM dx (putF "known" (.ref b) (putF "makings" (.ref a) []))) = H2 at x2 h2 h2a h2b ⊢
    refine ⟨Nat.zero_le _, fun c nc => ?_⟩
    have pc : p ≠ c := ne_of_none h2 nc
    have ac : a ≠ c := ne_of_none h2a nc
    have bc : b ≠ c := ne_of_none h2b nc
    have nc0 : H c = none := x1.f _ (x2.f _ nc)
    refine ⟨.ref p, rfl, p, CM, dx, _, rfl, by rw [upd_ne pc]; exact h2, T.cl, T.n2, by omega, ?_⟩
    have l3 := lenF "kept" (.ref c) l2
    have lk := fun (m : Str) => congrArg (fun z => List.lookup m z) (rfl : putF "kept" (.ref c) (putF "known" (.ref b) (putF "makings" (.ref a) [])) = putF "kept" (.ref c) (putF "known" (.ref b) (putF "makings" (.ref a) [])))
    have x3 : Ex [p] H2 (upd (upd H2 c (.lst [])) p (.ins CM dx (putF "kept" (.ref c) (putF "known" (.ref b) (putF "makings" (.ref a) []))))) := (Ex.new nc).trans (put (by rw [upd_ne pc]; exact h2))
    have h3 : (upd (upd H2 c (.lst [])) p (.ins CM dx (putF "kept" (.ref c) (putF "known" (.ref b) (putF "makings" (.ref a) []))))) p = some (.ins CM dx (putF "kept" (.ref c) (putF "known" (.ref b) (putF "makings" (.ref a) [])))) := upd_same
    have h3a : (upd (upd H2 c (.lst [])) p (.ins CM dx (putF "kept" (.ref c) (putF "known" (.ref b) (putF "makings" (.ref a) []))))) a = some (.lst []) := by rw [upd_ne pa.symm, upd_ne ac]; exact h2a
    have h3b : (upd (upd H2 c (.lst [])) p (.ins CM dx (putF "kept" (.ref c) (putF "known" (.ref b) (putF "makings" (.ref a) []))))) b = some (.dT []) := by rw [upd_ne pb.symm, upd_ne bc]; exact h2b
    have h3c : (upd (upd H2 c (.lst [])) p (.ins CM dx (putF "kept" (.ref c) (putF "known" (.ref b) (putF "makings" (.ref a) []))))) c = some (.lst []) := by rw [upd_ne pc.symm]; exact upd_same
    generalize upd (upd H2 c (.lst [])) p (.ins CM dx (putF "kept" (.ref c) (putF "known" (.ref b) (putF "makings" (.ref a) [])))) = H3 at x3 h3 h3a h3b h3c ⊢
    have lk1 : ∀ fs, fs = putF "kept" (.ref c) (putF "known" (.ref b) (putF "makings" (.ref a) ([] : List (Str × V)))) → fs.lookup ("makings" : Str) = some (.ref a) ∧ fs.lookup ("known" : Str) = some (.ref b) ∧ fs.lookup ("kept" : Str) = some (.ref c) ∧ fs.lookup ("zero" : Str) = none ∧ fs.lookup ("made" : Str) = none ∧ fs.lookup ("keeps" : Str) = none := fun fs e => by
      subst e
      simp only [lookup_putF]
      refine ⟨?_, ?_, ?_, ?_, ?_, ?_⟩
      · rw [if_neg (by decide +kernel), if_neg (by decide +kernel), if_pos trivial]
      · rw [if_neg (by decide +kernel), if_pos trivial]
      · rw [if_pos trivial]
      · rw [if_neg (by decide +kernel), if_neg (by decide +kernel), if_neg (by decide +kernel)]; rfl
      · rw [if_neg (by decide +kernel), if_neg (by decide +kernel), if_neg (by decide +kernel)]; rfl
      · rw [if_neg (by decide +kernel), if_neg (by decide +kernel), if_neg (by decide +kernel)]; rfl
    obtain ⟨k1, k2, k3, k4, k5, k6⟩ := lk1 _ rfl
    generalize putF "kept" (.ref c) (putF "known" (.ref b) (putF "makings" (.ref a) ([] : List (Str × V)))) = fs at h3 l3 k1 k2 k3 k4 k5 k6 ⊢
    refine ⟨.ref p, rfl, p, dx, fs, rfl, h3, k5, (by show 2 ≤ sizeLine; decide), fun t nt => ?_⟩
    have xt : Ex [] H3 (upd H3 t (.tup (mkV (.number 0)))) := .new nt
    have G0 : FmG CM H3 p a b c [] none := ⟨⟨dx, fs, h3, k1, k2, k3, k4, k5, k6, by omega⟩, ⟨[], h3a, .nil⟩, h3b, h3c, ac⟩
    refine ⟨p, a, b, c, .ref t, .number 0, [], none, rfl, G0.nil xt, ⟨t, rfl, upd_same⟩, trivial, Nat.zero_le _, fun H4 x4 G4 => ?_⟩
    obtain ⟨_, ⟨vs, i2, i3⟩, i4, i5, i6⟩ := G4
    have i1 : H4 p = some (.ins CM dx fs) := x4.a p _ (by simp [pa, pb, pc]) (xt.a p _ (by simp) h3 (fun _ z => by cases z)) (fun _ z => by cases z)
    refine ⟨.ref p, rfl, p, CM, dx, fs, rfl, i1, T.cl, T.n3, by omega, ?_⟩
    have x5 : Ex [p] H4 (upd H4 p (.ins CM dx (putF "zero" (.int 0) fs))) := .put i1 (fun _ z => by cases z) (by simp)
    have xa : Ex [p] H H4 := by
      refine ex_onto (fun z hz => ?_) ((x1.trans (x2.trans x3)).trans xt.nil) (x4.mono (fun z hz => List.mem_cons_of_mem p hz))
      simp only [List.mem_cons, List.not_mem_nil, or_false] at hz
      rcases hz with rfl | rfl | rfl | rfl
      · exact .inl (by simp)
      · exact .inr na
      · exact .inr nb0
      · exact .inr nc0
    refine q _ a b c (xa.trans x5) na nb0 nc0 ⟨⟨dx, _, upd_same, ?_, ?_, ?_, ?_, ?_, ?_, ?_⟩, ⟨vs, ?_, i3.imp fun _ _ h => h.ex x5⟩, ?_, ?_, i6⟩
    · rw [lookup_putF, if_neg (by decide +kernel)]; exact k1
    · rw [lookup_putF, if_neg (by decide +kernel)]; exact k2
    · rw [lookup_putF, if_neg (by decide +kernel)]; exact k3
    · rw [lookup_putF, if_pos rfl]; rfl
    · rw [lookup_putF, if_neg (by decide +kernel)]; exact k5
    · rw [lookup_putF, if_neg (by decide +kernel)]; exact k6
    · have := lenF "zero" (.int 0) l3
      show (putF "zero" (.int 0) fs).length ≤ 10
      omega
    · exact x5.lst i2 (by simpa using pa.symm)
    · exact x5.a b _ (by simpa using pb.symm) i4 (fun _ z => by cases z)
    · exact x5.lst i5 (by simpa using pc.symm)
end
end K48

namespace Kk
open PySem PySem.Spec PyProof.Rows L2
/-! d.get(k, x) of a dict of the written part; a statement that is never reached -/
def tKGet2 (K : PySem.W.Frag) (w : World) (td ty tx : TE) : TE := fun σ H Q => td σ H fun x H1 => ∃ a es n, x = .ref a ∧ KDict K w a es n ∧ ty σ H1 fun y H2 => tx σ H2 fun z H3 => ∃ (k : Str) (o : Option Value) (v : V), y = .str k ∧ PySem.W.nsIn K a k = some o ∧
  (∀ u, o = some u → RelV v u) ∧ (o = none → v = z) ∧ Q v H3
section
variable {X : Cx} {o e f : Expr} {apos cpos : Pos} {td ty tx : TE}
theorem pe_kget2 (ho : PE X o td) (he : PE X e ty) (hf : PE X f tx) (m : M2 X o "get" apos e f cpos) : PE X (.Call (.Attribute o "get" apos) [e, f] [] cpos) (tKGet2 X.K X.w td ty tx) := by
  refine ⟨fun pins s σ H Q I h => ?_⟩
  refine wpAny_Call_method m.base m.few m.line PySem.F.plainAttrs_dict PySem.F.slot_dict_get PySem.F.type_dict_get (thn (ho.run pins s σ H _ I h) fun u s1 ⟨x, H1, I1, rx, a, es, n, ex, D, q1⟩ => ?_)
  subst ex
  obtain rfl : u = Value.ref a := rx
  have hm1 := PySem.W.mapOf_K (prog := X.prog) (w := X.w) I1.kIn D.at_ D.lit
  refine ⟨hm1.typeIs, fun b q => ?_, ?_⟩
  · cases q
    exact ⟨_, I1.kIn _ _ D.at_, rfl⟩
  rw [m.trees]
  refine Calls.callWith_builtin rfl (Calls.evalArgs_plain (Calls.spliced_cons (thn (he.run pins s1 σ H1 _ I1 q1) fun iv s2 ⟨y, H2, I2, ry, q2⟩ =>
    Calls.spliced_cons (thn (hf.run pins s2 σ H2 _ I2 q2) fun fv s3 ⟨z, H3, I3, rz, k, ov, v, ey, hn, h1, h2, q3⟩ => Calls.spliced_nil ?_))))
  subst ey
  obtain ⟨t, rfl⟩ := (show ∃ t, iv = Value.str k t from ry)
  have hm := PySem.W.mapOf_K (prog := X.prog) (w := X.w) I3.kIn D.at_ D.lit
  refine call_meetsIn PySem.F.slot_dict_get hm.typeIs PySem.F.entry_dict_get (PySem.F.args_dict_get_3 _ _ _) (meets_dict_get_default (PySem.strKind X.prog X.w) a (strKind_is X.prog X.w k t) D.low fv) ⟨_, hm, ?_⟩
  refine ⟨v, H3, I3.tok _, ?_, q3⟩
  show RelV v ((findBy Value.isStrOf es k).getD fv)
  rw [PySem.W.find_K D.at_ hn]
  cases ov with
  | none => rw [h2 rfl]; exact rz
  | some u => exact h1 u rfl
end
theorem ps_nv {X : Cx} {st : Stmt} : PS X st (fun _ _ _ => False) := ⟨fun _ _ _ _ _ _ q => q.elim⟩
theorem PS.by {X : Cx} {st : Stmt} {t t' : TS} (h : PS X st t) (imp : ∀ D σ H, t' D σ H → t D σ H) : PS X st t' := ⟨fun pins s σ H D I q => h.run pins s σ H D I (imp D σ H q)⟩
theorem PE.by {X : Cx} {e : Expr} {t t' : TE} (h : PE X e t) (imp : ∀ σ H Q, t' σ H Q → t σ H Q) : PE X e t' := ⟨fun pins s σ H Q I q => h.run pins s σ H Q I (imp σ H Q q)⟩
end Kk

namespace K48
open PySem PySem.Spec PyProof.Rows L2 Kk
abbrev s_choices : Stmt := topS 13
abbrev s_asked : Stmt := topS 14
theorem sc_choices : FnScope ["word"] ["word"] (defScope s_choices) := ⟨rfl, rfl, rfl, by decide +kernel, rfl, by decide +kernel, by decide +kernel⟩
theorem sc_asked : FnScope ["word"] ["word"] (defScope s_asked) := ⟨rfl, rfl, rfl, by decide +kernel, rfl, by decide +kernel, by decide +kernel⟩
theorem cut1n {x : V} {xs : List V} : ¬ (HT.sIx (x :: xs).length 0 (some 1) = 0 ∧ HT.sIx (x :: xs).length (x :: xs).length none = (x :: xs).length) := one_cut
theorem cut1 {x : V} {xs : List V} : cutV (x :: xs) (some 1) none = xs := cut_one
theorem cutN {xs : List V} (k : Nat) : cutV xs (some (k : Int)) none = xs.drop k := by
  unfold cutV
  rw [HT.sIx_none, HT.sIx_nat]
  by_cases h : k ≤ xs.length
  · rw [Nat.min_eq_left h, List.take_of_length_le (by rw [List.length_drop]; omega)]
  · rw [Nat.min_eq_right (by omega), List.drop_of_length_le (Nat.le_refl _), List.drop_of_length_le (by omega), List.take_nil]
theorem cutNo {xs : List V} (k : Nat) (hk : 1 ≤ k) (hx : 1 ≤ xs.length) {m : Option Int} : ¬ (HT.sIx xs.length 0 (some (k : Int)) = 0 ∧ HT.sIx xs.length xs.length m = xs.length) := fun ⟨h, _⟩ => by
  rw [HT.sIx_nat] at h
  omega
theorem inY {x : V} {l : List V} {A B : Prop} (h : inV x l = true) (a : A) : if inV x l = true then A else B := by rw [if_pos h]; exact a
theorem inN {x : V} {l : List V} {A B : Prop} (h : inV x l = false) (a : B) : if inV x l = true then A else B := by rw [h]; exact a
def chW : Wo → Int
  | .take _ _ => 10000
  | .ask _ => 10000
  | _ => 0
theorem WoX.pos {H : Hp} {W : Wo} {xs : List V} (h : WoX H W xs) : 2 ≤ xs.length := by
  cases W with
  | take b s => obtain ⟨v, rfl, _⟩ := h; simp
  | ask b => obtain ⟨v, rfl, _⟩ := h; simp
  | number b n => obtain ⟨v, rfl, _⟩ := h; simp
  | copy b c => obtain ⟨v, u, rfl, _⟩ := h; simp
  | mix b c d => obtain ⟨v, u, z, rfl, _⟩ := h; simp
  | opn b c => obtain ⟨v, u, rfl, _⟩ := h; simp
  | tell b => obtain ⟨v, rfl, _⟩ := h; simp
  | wipe b => obtain ⟨v, rfl, _⟩ := h; simp
theorem pe_nv {X : Cx} {e : Expr} : PE X e (fun _ _ _ => False) := ⟨fun _ _ _ _ _ _ h => h.elim⟩
section
variable {P : Program} {w : World} {K : PySem.W.Frag} {mg : Str → Option Value} {base : Heap}
def spChoices (K : PySem.W.Frag) : Sp := fun vs H Q _ => ∃ (v : V) (W : Wo), vs = [v] ∧ WoH K H v W ∧ Q (.int (chW W)) H
theorem kinds {H : Hp} {W : Wo} {xs : List V} (h : WoX H W xs) : ∃ k r, xs = .str k :: r ∧ ((k = Str.ofString "take" ∧ chW W = 10000) ∨ (k = Str.ofString "ask" ∧ chW W = 10000) ∨ (¬ k = Str.ofString "take" ∧ ¬ k = Str.ofString "ask" ∧ ¬ k = Str.ofString "choose" ∧ ¬ k = Str.ofString "risk" ∧ chW W = 0)) := by
  cases W with
  | take b s => obtain ⟨v, rfl, _⟩ := h; exact ⟨_, _, rfl, .inl ⟨rfl, rfl⟩⟩
  | ask b => obtain ⟨v, rfl, _⟩ := h; exact ⟨_, _, rfl, .inr (.inl ⟨rfl, rfl⟩)⟩
  | number b n => obtain ⟨v, rfl, _⟩ := h; exact ⟨_, _, rfl, .inr (.inr ⟨by decide +kernel, by decide +kernel, by decide +kernel, by decide +kernel, rfl⟩)⟩
  | copy b c => obtain ⟨v, u, rfl, _⟩ := h; exact ⟨_, _, rfl, .inr (.inr ⟨by decide +kernel, by decide +kernel, by decide +kernel, by decide +kernel, rfl⟩)⟩
  | mix b c d => obtain ⟨v, u, z, rfl, _⟩ := h; exact ⟨_, _, rfl, .inr (.inr ⟨by decide +kernel, by decide +kernel, by decide +kernel, by decide +kernel, rfl⟩)⟩
  | opn b c => obtain ⟨v, u, rfl, _⟩ := h; exact ⟨_, _, rfl, .inr (.inr ⟨by decide +kernel, by decide +kernel, by decide +kernel, by decide +kernel, rfl⟩)⟩
  | tell b => obtain ⟨v, rfl, _⟩ := h; exact ⟨_, _, rfl, .inr (.inr ⟨by decide +kernel, by decide +kernel, by decide +kernel, by decide +kernel, rfl⟩)⟩
  | wipe b => obtain ⟨v, rfl, _⟩ := h; exact ⟨_, _, rfl, .inr (.inr ⟨by decide +kernel, by decide +kernel, by decide +kernel, by decide +kernel, rfl⟩)⟩
theorem ok_choices {f : Addr} {fd : FuncData} {k : Nat} (F : Fun K "choices_of" "choices_of" s_choices f fd) (g_MN : ∃ t, mg "MOST_NUMBER" = some (.int 9999 t)) : FnOk P w K mg base CX0 (k + 1) f fd ["word"] (spChoices K) := by
  obtain ⟨t1, g1⟩ := g_MN
  refine F.ok sc_choices (fun vs H Q E h => ?_) (fun cdv A outer s H vs Q E hr h => ?_)
  · obtain ⟨v, W, rfl, _⟩ := h; rfl
  · obtain ⟨v, W, rfl, ⟨a, xs, rfl, hs, hx⟩, q⟩ := h
    refine ⟨_, (pss_cons (ps_if (PW.pt (pw_or (pt_cmpR op_eq (pe_ix ix_tup (pv 0) pe_int (fun _ _ => rfl)) pe_str (nomark _)) (pw_or1 (pt_cmpR op_eq (pe_ix ix_tup (pv 0) pe_int (fun _ _ => rfl)) pe_str (nomark _))))) (pss_one (ps_ret (pe_op op_add (pe_glob (v := .int 9999) rfl g1 ⟨_, rfl⟩) pe_int))) pss_nil)
      (pss_cons (ps_if (pt_cmpR op_eq (pe_ix ix_tup (pv 0) pe_int (fun _ _ => rfl)) pe_str (nomark _)) (pss_one ps_nv) pss_nil)
      (pss_cons (ps_if (pt_cmpR op_eq (pe_ix ix_tup (pv 0) pe_int (fun _ _ => rfl)) pe_str (nomark _)) (pss_one (ps_ret pe_int)) pss_nil)
      (pss_one (ps_ret pe_int))))), ?_⟩
    obtain ⟨kd, r, rfl, hk⟩ := kinds hx
    rcases hk with ⟨rfl, e⟩ | ⟨rfl, e⟩ | ⟨n1, n2, n3, n4, e⟩
    · rw [e] at q
      exact ⟨.ref a, rfl, a, _, 0, _, rfl, rfl, hs, at0, rfl, _, rfl, sY (iteT ⟨9999, 1, rfl, rfl, q⟩)⟩
    · rw [e] at q
      exact ⟨.ref a, rfl, a, _, 0, _, rfl, rfl, hs, at0, rfl, _, rfl, sN (by decide +kernel) ⟨.ref a, rfl, a, _, 0, _, rfl, rfl, hs, at0, rfl, _, rfl, sY ⟨9999, 1, rfl, rfl, q⟩⟩⟩
    · rw [e] at q
      exact ⟨.ref a, rfl, a, _, 0, _, rfl, rfl, hs, at0, rfl, _, rfl, sN n1 ⟨.ref a, rfl, a, _, 0, _, rfl, rfl, hs, at0, rfl, _, rfl, sN n2 ⟨.ref a, rfl, a, _, 0, _, rfl, rfl, hs, at0, rfl, _, rfl, sN n3 ⟨.ref a, rfl, a, _, 0, _, rfl, rfl, hs, at0, rfl, _, rfl, sN n4 q⟩⟩⟩⟩
def spAsked (K : PySem.W.Frag) : Sp := fun vs H Q _ => ∃ (v : V) (W : Wo), vs = [v] ∧ WoH K H v W ∧ ∀ H' p xs, Ex [] H H' → SqT K H' p xs → P2 (BxT H') xs (askB W) → Q (.ref p) H'
/-- which way asked_by goes -/
theorem ask_kind {H : Hp} {W : Wo} {xs : List V} (h : WoX H W xs) : ∃ k r, xs = .str k :: r ∧
    ((inV (.str k) [.str (Str.ofString "copy"), .str (Str.ofString "mix"), .str (Str.ofString "open")] = true ∧ P2 (BxT H) (xs.drop 2) (askB W)) ∨
    (inV (.str k) [.str (Str.ofString "copy"), .str (Str.ofString "mix"), .str (Str.ofString "open")] = false ∧ k = Str.ofString "tell" ∧ P2 (BxT H) (xs.drop 1) (askB W)) ∨
    (inV (.str k) [.str (Str.ofString "copy"), .str (Str.ofString "mix"), .str (Str.ofString "open")] = false ∧ ¬ k = Str.ofString "tell" ∧ ¬ k = Str.ofString "call" ∧ askB W = [])) := by
  cases W with
  | take b s => obtain ⟨v, rfl, _⟩ := h; exact ⟨_, _, rfl, .inr (.inr ⟨by decide +kernel, by decide +kernel, by decide +kernel, rfl⟩)⟩
  | ask b => obtain ⟨v, rfl, _⟩ := h; exact ⟨_, _, rfl, .inr (.inr ⟨by decide +kernel, by decide +kernel, by decide +kernel, rfl⟩)⟩
  | number b n => obtain ⟨v, rfl, _⟩ := h; exact ⟨_, _, rfl, .inr (.inr ⟨by decide +kernel, by decide +kernel, by decide +kernel, rfl⟩)⟩
  | copy b c => obtain ⟨v, u, rfl, _, hc⟩ := h; exact ⟨_, _, rfl, .inl ⟨by decide +kernel, .cons hc .nil⟩⟩
  | mix b c d => obtain ⟨v, u, z, rfl, _, hc, hd⟩ := h; exact ⟨_, _, rfl, .inl ⟨by decide +kernel, .cons hc (.cons hd .nil)⟩⟩
  | opn b c => obtain ⟨v, u, rfl, _, hc⟩ := h; exact ⟨_, _, rfl, .inl ⟨by decide +kernel, .cons hc .nil⟩⟩
  | tell b => obtain ⟨v, rfl, hb⟩ := h; exact ⟨_, _, rfl, .inr (.inl ⟨by decide +kernel, rfl, .cons hb .nil⟩)⟩
  | wipe b => obtain ⟨v, rfl, _⟩ := h; exact ⟨_, _, rfl, .inr (.inr ⟨by decide +kernel, by decide +kernel, by decide +kernel, rfl⟩)⟩
theorem ok_asked {f : Addr} {fd : FuncData} {k : Nat} (F : Fun K "asked_by" "asked_by" s_asked f fd) : FnOk P w K mg base CX0 (k + 1) f fd ["word"] (spAsked K) := by
  refine F.ok sc_asked (fun vs H Q E h => ?_) (fun cdv A outer s H vs Q E hr h => ?_)
  · obtain ⟨v, W, rfl, _⟩ := h; rfl
  · obtain ⟨v, W, rfl, ⟨a, xs, rfl, hs, hx⟩, q⟩ := h
    refine ⟨_, (pss_cons (ps_if (pt_cmpR op_in_seq (pe_ix ix_tup (pv 0) pe_int (fun _ _ => rfl)) (pe_tup (pa_cons pe_str (pa_cons pe_str (pa_cons pe_str pa_nil)))) rfl) (pss_one (ps_ret (pe_slice sl_tupA (pv 0) (po_some pe_int) po_none))) pss_nil)
      (pss_cons (ps_if (pt_cmpR op_eq (pe_ix ix_tup (pv 0) pe_int (fun _ _ => rfl)) pe_str (nomark _)) (pss_one (ps_ret (pe_slice sl_tupA (pv 0) (po_some pe_int) po_none))) pss_nil)
      (pss_one (ps_ret (pe_ifExp (pt_cmpR op_eq (pe_ix ix_tup (pv 0) pe_int (fun _ _ => rfl)) pe_str (nomark _)) pe_nv (pe_tup pa_nil)))))), ?_⟩
    have hp := hx.pos
    obtain ⟨kd, r, e, hk⟩ := ask_kind hx
    have ix0 : atI xs 0 = some (.str kd) := by rw [e]; exact at0
    refine ⟨.ref a, rfl, a, _, 0, _, rfl, rfl, hs, ix0, (by show 3 ≤ sizeLine; decide), fun T nT => ?_⟩
    have xT : Ex [] H (upd H T (.tup [.str (Str.ofString "copy"), .str (Str.ofString "mix"), .str (Str.ofString "open")])) := .new nT
    refine ⟨T, _, rfl, .inr (.of upd_same), rfl, rfl, _, rfl, ?_⟩
    rcases hk with ⟨k1, k2⟩ | ⟨k1, rfl, k2⟩ | ⟨k1, k2, k3, k4⟩
    · refine inY k1 ⟨.ref a, rfl, 2, rfl, a, _, rfl, xT.seqT hs, fun z => absurd z (cutNo 2 (by decide) (by omega)), fun _ B nB => ?_⟩
      rw [show cutV xs (some 2) none = xs.drop 2 from cutN 2]
      have xB : Ex [] (upd H T (.tup [.str (Str.ofString "copy"), .str (Str.ofString "mix"), .str (Str.ofString "open")])) (upd (upd H T (.tup [.str (Str.ofString "copy"), .str (Str.ofString "mix"), .str (Str.ofString "open")])) B (.tup (xs.drop 2))) := .new nB
      exact q _ _ _ (xT.trans xB) (.of upd_same) (k2.imp fun _ _ h => (h.ex xT).ex xB)
    · refine inN k1 ⟨.ref a, rfl, a, _, 0, _, rfl, rfl, xT.seqT hs, ix0, rfl, _, rfl, sY ⟨.ref a, rfl, 1, rfl, a, _, rfl, xT.seqT hs, fun z => absurd z (cutNo 1 (by decide) (by omega)), fun _ B nB => ?_⟩⟩
      rw [show cutV xs (some 1) none = xs.drop 1 from cutN 1]
      have xB : Ex [] (upd H T (.tup [.str (Str.ofString "copy"), .str (Str.ofString "mix"), .str (Str.ofString "open")])) (upd (upd H T (.tup [.str (Str.ofString "copy"), .str (Str.ofString "mix"), .str (Str.ofString "open")])) B (.tup (xs.drop 1))) := .new nB
      exact q _ _ _ (xT.trans xB) (.of upd_same) (k2.imp fun _ _ h => (h.ex xT).ex xB)
    · refine inN k1 ⟨.ref a, rfl, a, _, 0, _, rfl, rfl, xT.seqT hs, ix0, rfl, _, rfl, sN k2 ⟨.ref a, rfl, a, _, 0, _, rfl, rfl, xT.seqT hs, ix0, rfl, _, rfl, sN k3 ⟨(by show 0 ≤ sizeLine; decide), fun B nB => ?_⟩⟩⟩
      have xB : Ex [] (upd H T (.tup [.str (Str.ofString "copy"), .str (Str.ofString "mix"), .str (Str.ofString "open")])) (upd (upd H T (.tup [.str (Str.ofString "copy"), .str (Str.ofString "mix"), .str (Str.ofString "open")])) B (.tup [])) := .new nB
      exact q _ _ [] (xT.trans xB) (.of upd_same) (by rw [k4]; exact .nil)
end
end K48

set_option maxHeartbeats 4000000
namespace K48
open PySem PySem.Spec PyProof.Rows L2 Kk RZ
abbrev s_as : Stmt := topS 23
abbrev n_as : List Str := ["order", "parts", "kind", "part"]
theorem sc_as : FnScope n_as ["order"] (defScope s_as) := ⟨rfl, rfl, rfl, by decide +kernel, rfl, by decide +kernel, by decide +kernel⟩
/-! orders -/
inductive Or
  | take (h : Nat) (s : Str)
  | ask (h : Nat)
  | number (h : Nat) (n : Int)
  | copy (h g : Nat)
  | mix (h g i : Nat)
  | opn (h g : Nat)
  | tell (h : Nat)
  | wipe (h : Nat)
  | lay (s h : Nat)
  | fetch (h s : Nat)
  | clean (s : Nat)
def orK : Or → Str
  | .take _ _ => Str.ofString "take"
  | .ask _ => Str.ofString "ask"
  | .number _ _ => Str.ofString "number"
  | .copy _ _ => Str.ofString "copy"
  | .mix _ _ _ => Str.ofString "mix"
  | .opn _ _ => Str.ofString "open"
  | .tell _ => Str.ofString "tell"
  | .wipe _ => Str.ofString "wipe"
  | .lay _ _ => Str.ofString "lay"
  | .fetch _ _ => Str.ofString "fetch"
  | .clean _ => Str.ofString "clean"
def orV : Or → List V
  | .take h s => [.int h, .str s]
  | .ask h => [.int h]
  | .number h n => [.int h, .int n]
  | .copy h g => [.int h, .int g]
  | .mix h g i => [.int h, .int g, .int i]
  | .opn h g => [.int h, .int g]
  | .tell h => [.int h]
  | .wipe h => [.int h]
  | .lay s h => [.int s, .int h]
  | .fetch h s => [.int h, .int s]
  | .clean s => [.int s]
def orP : Or → List PyData
  | .take h s => [.int h, .str s]
  | .ask h => [.int h]
  | .number h n => [.int h, .int n]
  | .copy h g => [.int h, .int g]
  | .mix h g i => [.int h, .int g, .int i]
  | .opn h g => [.int h, .int g]
  | .tell h => [.int h]
  | .wipe h => [.int h]
  | .lay s h => [.int s, .int h]
  | .fetch h s => [.int h, .int s]
  | .clean s => [.int s]
def orD (o : Or) : PyData := .tuple (.str (orK o) :: orP o)
def hnd : Str := Str.ofString "hand"
def slt : Str := Str.ofString "slot"
def nme : Str := Str.ofString "name"
def nmb : Str := Str.ofString "number"
def orS : Or → List Str
  | .take _ _ => [hnd, nme]
  | .ask _ => [hnd]
  | .number _ _ => [hnd, nmb]
  | .copy _ _ => [hnd, hnd]
  | .mix _ _ _ => [hnd, hnd, hnd]
  | .opn _ _ => [hnd, hnd]
  | .tell _ => [hnd]
  | .wipe _ => [hnd]
  | .lay _ _ => [slt, hnd]
  | .fetch _ _ => [hnd, slt]
  | .clean _ => [slt]
def asW : Or → Wo
  | .take h s => .take (.q hnd h) s
  | .ask h => .ask (.q hnd h)
  | .number h n => .number (.q hnd h) n
  | .copy h g => .copy (.q hnd h) (.q hnd g)
  | .mix h g i => .mix (.q hnd h) (.q hnd g) (.q hnd i)
  | .opn h g => .opn (.q hnd h) (.q hnd g)
  | .tell h => .tell (.q hnd h)
  | .wipe h => .wipe (.q hnd h)
  | .lay s h => .copy (.q slt s) (.q hnd h)
  | .fetch h s => .copy (.q hnd h) (.q slt s)
  | .clean s => .wipe (.q slt s)
def asK : Or → Str
  | .lay _ _ => Str.ofString "copy"
  | .fetch _ _ => Str.ofString "copy"
  | .clean _ => Str.ofString "wipe"
  | o => orK o
theorem or_vals {K : PySem.W.Frag} {H : Hp} {o : Or} {xs : List V} (h : TpAll K H xs (orP o)) : xs = orV o := by
  cases o <;> (simp only [orP] at h; simp only [orV])
  all_goals
    cases h with
    | cons a b =>
      cases a
      first
      | (cases b; rfl)
      | (cases b with
        | cons a b =>
          cases a
          first
          | (cases b; rfl)
          | (cases b with
            | cons a b =>
              cases a
              cases b
              rfl))
theorem or_len (o : Or) : (orV o).length = (orS o).length ∧ (orS o).length ≤ 3 := by cases o <;> exact ⟨rfl, by simp [orS]⟩
/-- the kinds of the orders, and the orders that are words, where they stand -/
structure Ok (K : PySem.W.Frag) (w : World) (mg : Str → Option Value) (oA wA : Addr) (es : Array DictEntry) (n : Nat) : Prop where
  m : mg "ORDERS" = some (.ref oA)
  o : ∀ o, ∃ t, KDct K w oA (orK o) (.ref t) ∧ ∀ H, SqT K H t ((orS o).map V.str)
  mw : mg "AS_WORDS" = some (.ref wA)
  d : KDict K w wA es n
  w : ∀ o : Or, ∃ r : Option Value, PySem.W.nsIn K wA (orK o) = some r ∧ (∀ u, r = some u → RelV (.str (asK o)) u) ∧ (r = none → asK o = orK o)
/-- a part as it is put -/
def CvR (H : Hp) (kp : Str × V) (c : V) : Prop := (kp.1 = hnd ∨ kp.1 = slt) ∧ (∃ t, c = .ref t ∧ H t = some (.tup [.str kp.1, kp.2])) ∨ (¬ (kp.1 = hnd ∨ kp.1 = slt)) ∧ c = kp.2
theorem CvR.ex {H H' : Hp} {kp : Str × V} {c : V} {xs : List Addr} (h : CvR H kp c) (e : Ex xs H H') : CvR H' kp c := by
  rcases h with ⟨h1, t, h2, h3⟩ | h
  · exact .inl ⟨h1, t, h2, e.tup h3⟩
  · exact .inr h
theorem cv_h {H : Hp} {v c : V} (h : CvR H (hnd, v) c) : ∃ t, c = .ref t ∧ H t = some (.tup [.str hnd, v]) := by
  rcases h with ⟨_, h⟩ | ⟨h, _⟩
  · exact h
  · exact absurd (.inl rfl) h
theorem cv_s {H : Hp} {v c : V} (h : CvR H (slt, v) c) : ∃ t, c = .ref t ∧ H t = some (.tup [.str slt, v]) := by
  rcases h with ⟨_, h⟩ | ⟨h, _⟩
  · exact h
  · exact absurd (.inr rfl) h
theorem cv_n {H : Hp} {v c : V} (h : CvR H (nme, v) c) : c = v := by
  rcases h with ⟨h, _⟩ | ⟨_, h⟩
  · exact absurd (show nme = hnd ∨ nme = slt from h) (by decide +kernel)
  · exact h
theorem cv_b {H : Hp} {v c : V} (h : CvR H (nmb, v) c) : c = v := by
  rcases h with ⟨h, _⟩ | ⟨_, h⟩
  · exact absurd (show nmb = hnd ∨ nmb = slt from h) (by decide +kernel)
  · exact h
theorem as_ok {H : Hp} {o : Or} {cs : List V} (h : P2 (CvR H) ((orS o).zip (orV o)) cs) : WoX H (asW o) (.str (asK o) :: cs) := by
  cases o with
  | take x s =>
    cases h with | cons a b => cases b with | cons b c => cases c; obtain ⟨t, rfl, ht⟩ := cv_h a; rw [cv_n b]; exact ⟨_, rfl, t, rfl, ht⟩
  | ask x => cases h with | cons a b => cases b; obtain ⟨t, rfl, ht⟩ := cv_h a; exact ⟨_, rfl, t, rfl, ht⟩
  | number x n =>
    cases h with | cons a b => cases b with | cons b c => cases c; obtain ⟨t, rfl, ht⟩ := cv_h a; rw [cv_b b]; exact ⟨_, rfl, t, rfl, ht⟩
  | copy x y =>
    cases h with | cons a b => cases b with | cons b c => cases c; obtain ⟨t, rfl, ht⟩ := cv_h a; obtain ⟨u, rfl, hu⟩ := cv_h b; exact ⟨_, _, rfl, ⟨t, rfl, ht⟩, u, rfl, hu⟩
  | mix x y z =>
    cases h with | cons a b => cases b with | cons b c => cases c with | cons c d => cases d; obtain ⟨t, rfl, ht⟩ := cv_h a; obtain ⟨u, rfl, hu⟩ := cv_h b; obtain ⟨v, rfl, hv⟩ := cv_h c; exact ⟨_, _, _, rfl, ⟨t, rfl, ht⟩, ⟨u, rfl, hu⟩, v, rfl, hv⟩
  | opn x y =>
    cases h with | cons a b => cases b with | cons b c => cases c; obtain ⟨t, rfl, ht⟩ := cv_h a; obtain ⟨u, rfl, hu⟩ := cv_h b; exact ⟨_, _, rfl, ⟨t, rfl, ht⟩, u, rfl, hu⟩
  | tell x => cases h with | cons a b => cases b; obtain ⟨t, rfl, ht⟩ := cv_h a; exact ⟨_, rfl, t, rfl, ht⟩
  | wipe x => cases h with | cons a b => cases b; obtain ⟨t, rfl, ht⟩ := cv_h a; exact ⟨_, rfl, t, rfl, ht⟩
  | lay x y =>
    cases h with | cons a b => cases b with | cons b c => cases c; obtain ⟨t, rfl, ht⟩ := cv_s a; obtain ⟨u, rfl, hu⟩ := cv_h b; exact ⟨_, _, rfl, ⟨t, rfl, ht⟩, u, rfl, hu⟩
  | fetch x y =>
    cases h with | cons a b => cases b with | cons b c => cases c; obtain ⟨t, rfl, ht⟩ := cv_h a; obtain ⟨u, rfl, hu⟩ := cv_s b; exact ⟨_, _, rfl, ⟨t, rfl, ht⟩, u, rfl, hu⟩
  | clean x => cases h with | cons a b => cases b; obtain ⟨t, rfl, ht⟩ := cv_s a; exact ⟨_, rfl, t, rfl, ht⟩
theorem eqV_str {a b : Str} (h : eqV (V.str a) (V.str b) = true) : a = b := by
  have h' : (a == b) = true := by
    first
    | exact h
    | (unfold eqV at h; simpa using h)
  exact eq_of_beq h'
/-- the value that is appended -/
def tCv : TE := fun σ H Q => ∃ (y0 y1 : Option V) (kd : Str) (p : V), σ = [y0, y1, some (.str kd), some p] ∧ ∀ H' c, Ex [] H H' → CvR H' (kd, p) c → Q c H'
section
variable {P : Program} {w : World} {K : PySem.W.Frag} {mg : Str → Option Value} {base : Heap}
def spAs (K : PySem.W.Frag) : Sp := fun vs H Q _ => ∃ (v : V) (o : Or), vs = [v] ∧ Tp K H v (orD o) ∧ ∀ H' u, Ex [] H H' → WoH K H' u (asW o) → Q u H'
theorem ok_as {f oA wA : Addr} {fd : FuncData} {es : Array DictEntry} {n k : Nat} (F : Fun K "as_word" "as_word" s_as f fd) (M : Ok K w mg oA wA es n) (m_zip : mg "zip" = none) (m_tuple : mg "tuple" = none) : FnOk P w K mg base CX0 (k + 1) f fd ["order"] (spAs K) := by
  refine F.ok sc_as (fun vs H Q E h => ?_) (fun cdv A outer s H vs Q E hr h => ?_)
  · obtain ⟨v, o, rfl, _⟩ := h; rfl
  · obtain ⟨v, o, rfl, ht, q⟩ := h
    refine ⟨_, (pss_cons (ps_set (i := 1) sc_as.nd rfl (.inl rfl) (pe_lst (pa_cons (pe_kget2 (pe_glob (v := .ref wA) rfl M.mw rfl) (pe_ix ix_tup (pv 0) pe_int (fun _ _ => rfl)) (pe_ix ix_tup (pv 0) pe_int (fun _ _ => rfl)) ⟨rfl, rfl, rfl, rfl⟩) pa_nil)))
      (pss_cons (ps_for PassesOwn.never rfl (pi_zipA (by rfl) m_zip (pa_cons (pe_ix ix_kdict (pe_glob (v := .ref oA) rfl M.m rfl) (pe_ix ix_tup (pv 0) pe_int (fun _ _ => rfl)) (fun _ _ => rfl)) (pa_cons (pe_slice sl_tupA (pv 0) (po_some pe_int) po_none) pa_nil))) (pg_tup rfl (pgs_cons (pg_name (i := 2) sc_as.nd rfl (.inl rfl)) (pgs_cons (pg_name (i := 3) sc_as.nd rfl (.inl rfl)) pgs_nil)))
        (pss_one (ps_expr (pe_bm PySem.F.plainAttrs_list PySem.F.slot_list_append PySem.F.type_list_append mt_append (pv 1) (pa_cons (PE.by (t' := tCv) (pe_ifExp (pt_cmpR op_in_seq (pv 2) (pe_tup (pa_cons pe_str (pa_cons pe_str pa_nil))) rfl) (pe_tup (pa_cons (pv 2) (pa_cons (pv 3) pa_nil))) (pv 3)) (by
          rintro σ H Q ⟨y0, y1, kd, p, rfl, q⟩
          refine ⟨.str kd, rfl, (by show 2 ≤ sizeLine; decide), fun T nT => ?_⟩
          have xT : Ex [] H (upd H T (.tup [.str (Str.ofString "hand"), .str (Str.ofString "slot")])) := .new nT
          refine ⟨T, _, rfl, .inr (.of upd_same), rfl, rfl, _, rfl, ite2 (fun e => ?_) fun e => ?_⟩
          · refine ⟨.str kd, rfl, p, rfl, (by show 2 ≤ sizeLine; decide), fun U nU => ?_⟩
            have xU : Ex [] (upd H T (.tup [.str (Str.ofString "hand"), .str (Str.ofString "slot")])) (upd (upd H T (.tup [.str (Str.ofString "hand"), .str (Str.ofString "slot")])) U (.tup [.str kd, p])) := .new nU
            refine q _ _ (xT.trans xU) (.inl ⟨?_, U, rfl, upd_same⟩)
            have e2 : inV (.str kd) [.str (Str.ofString "hand"), .str (Str.ofString "slot")] = true := e
            by_cases h1 : kd = hnd
            · exact .inl h1
            · refine .inr (Decidable.byContradiction fun h2 => ?_)
              have : inV (.str kd) [.str (Str.ofString "hand"), .str (Str.ofString "slot")] = false := by
                simp [inV]
                refine ⟨?_, ?_⟩
                · cases z : eqV (V.str (Str.ofString "hand")) (V.str kd) with
                  | false => rfl
                  | true => exact absurd (eqV_str z).symm h1
                · cases z : eqV (V.str (Str.ofString "slot")) (V.str kd) with
                  | false => rfl
                  | true => exact absurd (eqV_str z).symm h2
              rw [this] at e2; cases e2
          · refine ⟨p, rfl, q _ _ xT (.inr ⟨fun z => e ?_, rfl⟩)⟩
            show inV (.str kd) [.str (Str.ofString "hand"), .str (Str.ofString "slot")] = true
            rcases z with z | z
            · have z : kd = hnd := z
              rw [z]; decide +kernel
            · have z : kd = slt := z
              rw [z]; decide +kernel)) pa_nil)))))
      (pss_one (ps_ret (pe_callTy call_tuple_of (by rfl) m_tuple (by decide +kernel) (pa_cons (pv 1) pa_nil)))))), ?_⟩
    unfold orD at ht
    cases ht with
    | tup hs ha =>
      rename_i a xs
      cases ha with
      | cons h0 hr1 =>
        cases h0
        rename_i rest
        obtain rfl := or_vals hr1
        obtain ⟨ln1, ln2⟩ := or_len o
        obtain ⟨r, w1, w2, w3⟩ := M.w o
        refine ⟨wA, es, n, rfl, M.d, .ref a, rfl, a, _, 0, .str (orK o), rfl, rfl, hs, at0, .ref a, rfl, a, _, 0, .str (orK o), rfl, rfl, hs, at0, orK o, r, .str (asK o), rfl, w1, w2, fun e => by rw [w3 e], (by show 1 ≤ sizeLine; decide), fun L nL => ?_⟩
        have xL : Ex [] H (upd H L (.lst [.str (asK o)])) := .new nL
        obtain ⟨t, kt, st⟩ := M.o o
        refine ⟨.ref a, rfl, a, _, 0, .str (orK o), rfl, rfl, xL.seqT hs, at0, oA, orK o, .ref t, rfl, rfl, kt, .ref a, rfl, 1, rfl, a, _, rfl, xL.seqT hs, fun z => absurd z cut1n, fun _ B nB => ?_⟩
        rw [cut1]
        have xB : Ex [] (upd H L (.lst [.str (asK o)])) (upd (upd H L (.lst [.str (asK o)])) B (.tup (orV o))) := .new nB
        have LB : L ≠ B := ne_of_none upd_same nB
        refine ⟨t, B, (orS o).map V.str, orV o, rfl, .inr ⟨st _, .of upd_same, ?_⟩⟩
        refine for_it (walk_zipT (xs := (orS o).map V.str) (ys := orV o) rfl) (fun i σ H2 => ∃ y2 y3 cs, σ = [some (.ref a), some (.ref L), y2, y3] ∧ H2 L = some (.lst (.str (asK o) :: cs)) ∧ P2 (CvR H2) (((orS o).zip (orV o)).take i) cs ∧ H2 B = some (.tup (orV o)) ∧ Ex [] H H2) ?_ ?_ ?_ ?_
        · exact ⟨_, _, [], rfl, xB.lst upd_same, .nil, upd_same, xL.trans xB⟩
        · rintro i σ H2 _ ⟨_, _, _, _, _, _, hB, _⟩
          exact ⟨st _, .of hB⟩
        · rintro i x σ H2 H3 hi ⟨y2, y3, cs, rfl, hL2, hp2, hB2, x2⟩ ⟨T9, x9, y9, rfl, n9, rfl, hx9, hy9⟩
          have hx9 : ((orS o).map V.str)[i]? = some x9 := hx9
          have hy9 : (orV o)[i]? = some y9 := hy9
          rw [List.getElem?_map] at hx9
          cases hk9 : (orS o)[i]? with
          | none => rw [hk9] at hx9; cases hx9
          | some k9 =>
            rw [hk9] at hx9
            cases hx9
            have x9 : Ex [] H2 (upd H2 T9 (.tup [.str k9, y9])) := .new n9
            have lcs := hp2.len
            rw [List.length_take] at lcs
            refine ⟨T9, [.str k9, y9], rfl, .of upd_same, rfl, _, _, rfl, _, _, rfl, rfl, ?_⟩
            refine ⟨.ref L, rfl, .inl ⟨rfl, _, .of (x9.lst hL2)⟩, some (.ref a), some (.ref L), k9, y9, rfl, fun H4 c x4 hc => ?_⟩
            have hL4 := x4.lst (x9.lst hL2)
            have xp : Ex [L] H4 (upd H4 L (.lst (.str (asK o) :: cs ++ [c]))) := .put hL4 nt_lst (by simp)
            have hi3 : i < 3 := by rw [List.length_map] at hi; omega
            refine ⟨L, _, _, rfl, rfl, hL4, by rw [List.length_cons, sizeLine_eq]; omega, ?_⟩
            refine ⟨_, _, cs ++ [c], rfl, upd_same, ?_, xp.tup (x4.tup (x9.tup hB2)), Ex.own nL ((x2.trans x9).trans x4) (xp.mono (by simp))⟩
            have ez : ((orS o).zip (orV o))[i]? = some (k9, y9) := by rw [List.getElem?_zip_eq_some]; exact ⟨hk9, hy9⟩
            rw [List.take_add_one, ez]
            exact (hp2.imp fun _ _ h => ((h.ex x9).ex x4).ex xp).app (.cons (hc.ex xp) .nil)
        · rintro σ H2 ⟨y2, y3, cs, rfl, hL2, hp2, hB2, x2⟩
          have e6 : min ((orS o).map V.str).length (orV o).length = ((orS o).zip (orV o)).length := by rw [List.length_map, List.length_zip]
          rw [e6, List.take_length] at hp2
          refine ⟨.ref L, rfl, L, _, rfl, .inl ⟨.of hL2, fun T nT => ?_⟩⟩
          have xT : Ex [] H2 (upd H2 T (.tup (.str (asK o) :: cs))) := .new nT
          exact q _ _ (x2.trans xT) ⟨T, _, rfl, .of upd_same, as_ok (hp2.imp fun _ _ h => h.ex xT)⟩
end
end K48

set_option maxHeartbeats 4000000
namespace K48
open PySem PySem.Spec PyProof.Rows L2 Kk
abbrev s_form_by : Stmt := inClass (topS 26) 2
abbrev s_put : Stmt := inClass (topS 26) 1
abbrev n_put : List Str := ["self", "word", "asked", "form"]
theorem sc_form_by : FnScope ["self", "word", "asked"] ["self", "word", "asked"] (defScope s_form_by) := ⟨rfl, rfl, rfl, by decide +kernel, rfl, by decide +kernel, by decide +kernel⟩
theorem sc_put : FnScope n_put ["self", "word", "asked"] (defScope s_put) := ⟨rfl, rfl, rfl, by decide +kernel, rfl, by decide +kernel, by decide +kernel⟩
theorem itD {p A B : Prop} [Decidable p] (h : p) (a : A) : if decide p = true then A else B := by rw [if_pos (decide_eq_true h)]; exact a
theorem itN {p A B : Prop} [Decidable p] (h : ¬ p) (b : B) : if decide p = true then A else B := by rw [if_neg (by rw [decide_eq_false h]; exact Bool.false_ne_true)]; exact b
/-! a straight row, traced, as data -/
def formB (ms : List Fo) (wt : Nat) (as : List Nat) : Wo → List Fo × Nat × Option Nat
  | .wipe _ => (ms, wt, some 0)
  | .copy _ _ => (ms, wt, some (as.getD 0 0))
  | .number _ n => ((made ms (.number n)).1, wt, some (made ms (.number n)).2)
  | .take _ _ => ((made ms (.take (wt + 1))).1, wt + 1, some (made ms (.take (wt + 1))).2)
  | .ask _ => ((made ms (.ask (wt + 1))).1, wt + 1, some (made ms (.ask (wt + 1))).2)
  | .mix _ _ _ => ((made ms (.mix (as.getD 0 0) (as.getD 1 0))).1, wt, some (made ms (.mix (as.getD 0 0) (as.getD 1 0))).2)
  | .opn _ _ => ((made ms (.opn (as.getD 0 0))).1, wt, some (made ms (.opn (as.getD 0 0))).2)
  | .tell _ => (ms, wt, none)
structure Ts where
  ms : List Fo
  dv : List (Bx × Nat)
  wt : Nat
  ps : List (Wo × List Nat × Option Nat)
def ptO (dv : List (Bx × Nat)) (b : Bx) : Option Nat → List (Bx × Nat)
  | none => dv
  | some n => ptB dv b n
def stepT (t : Ts) (W : Wo) : Ts := ⟨(formB t.ms t.wt ((askB W).map (gt t.dv)) W).1, ptO t.dv (boxW W) (formB t.ms t.wt ((askB W).map (gt t.dv)) W).2.2, (formB t.ms t.wt ((askB W).map (gt t.dv)) W).2.1, t.ps ++ [(W, (askB W).map (gt t.dv), (formB t.ms t.wt ((askB W).map (gt t.dv)) W).2.2)]⟩
def runT (t : Ts) (ws : List Wo) : Ts := ws.foldl stepT t
def optV : Option Nat → V
  | none => .non
  | some n => .int n
/-- a trace, as it stands -/
def TrI (CT : Addr) (H : Hp) (tr fm bx pt : Addr) (wt : Nat) : Prop := ∃ dx fs, H tr = some (.ins CT dx fs) ∧ fs.lookup ("forms" : Str) = some (.ref fm) ∧ fs.lookup ("boxes" : Str) = some (.ref bx) ∧ fs.lookup ("wanted" : Str) = some (.int wt) ∧ fs.lookup ("parts" : Str) = some (.ref pt) ∧ fs.lookup ("put" : Str) = none ∧ fs.lookup ("form_by" : Str) = none ∧ fs.lookup ("outer" : Str) = none ∧ fs.lookup ("keeps_nothing" : Str) = none ∧ fs.length ≤ 10
theorem TrI.ex {CT : Addr} {H H' : Hp} {tr fm bx pt : Addr} {wt : Nat} {xs : List Addr} (h : TrI CT H tr fm bx pt wt) (e : Ex xs H H') (m : tr ∉ xs) : TrI CT H' tr fm bx pt wt := by
  obtain ⟨dx, fs, h1, r⟩ := h
  exact ⟨dx, fs, e.a tr _ m h1 (fun _ z => by cases z), r⟩
structure TT (K : PySem.W.Frag) (mg : Str → Option Value) (CT : Addr) : Prop where
  cl : Cls K CT
  n0 : NoAttr K CT "forms"
  n1 : NoAttr K CT "boxes"
  n2 : NoAttr K CT "wanted"
  n3 : NoAttr K CT "parts"
  mgC : mg "Trace" = some (.ref CT)
def putL : List Str := ["take", "ask", "number", "copy", "mix", "open"].map Str.ofString
theorem made_some {ms : List Fo} {m : Fo} : (made ms m).2 < (made ms m).1.length ∧ ms.length ≤ (made ms m).1.length ∧ (made ms m).1.length ≤ ms.length + 1 := by
  unfold made
  cases e : ixG 0 ms m with
  | some i => have := (ixG_lt e).2.1; exact ⟨by show i < ms.length; omega, Nat.le_refl _, Nat.le_succ _⟩
  | none => show ms.length < (ms ++ [m]).length ∧ ms.length ≤ (ms ++ [m]).length ∧ (ms ++ [m]).length ≤ ms.length + 1; rw [List.length_append, List.length_singleton]; omega
theorem formB_len {ms : List Fo} {wt : Nat} {as : List Nat} {W : Wo} : ms.length ≤ (formB ms wt as W).1.length ∧ (formB ms wt as W).1.length ≤ ms.length + 1 ∧ (formB ms wt as W).2.1 ≤ wt + 1 := by
  have h := fun m => (made_some (ms := ms) (m := m)).2
  cases W <;> refine ⟨?_, ?_, ?_⟩ <;> first
    | exact (h _).1
    | exact (h _).2
    | exact Nat.le_refl _
    | exact Nat.le_succ _
theorem formB_lt {ms : List Fo} {wt : Nat} {as : List Nat} {W : Wo} {n : Nat} (h0 : 0 < ms.length) (ha : ∀ x ∈ as, x < ms.length) (h : (formB ms wt as W).2.2 = some n) : n < (formB ms wt as W).1.length := by
  have hm := fun m => (made_some (ms := ms) (m := m)).1
  have g0 : ∀ i, as.getD i 0 < ms.length := fun i => by
    rw [List.getD_eq_getElem?_getD]
    cases e : as[i]? with
    | none => exact h0
    | some y => exact ha y (List.mem_of_getElem? e)
  cases W
  case wipe => cases h; exact h0
  case copy => cases h; exact g0 0
  case tell => cases h
  all_goals (cases h; exact hm _)
theorem gt_lt {dv : List (Bx × Nat)} {n : Nat} (h0 : 0 < n) (h : ∀ x ∈ dv, x.2 < n) (b : Bx) : gt dv b < n := by
  unfold gt
  cases e : gtO dv b with
  | none => exact h0
  | some y => exact h _ (gtO_mem e)
section
variable {P : Program} {w : World} {K : PySem.W.Frag} {mg : Str → Option Value} {base : Heap}
def spFormBy (K : PySem.W.Frag) (CM CT : Addr) : Sp := fun vs H Q _ => ∃ (tr fm bx pt mk kn kp a : Addr) (v : V) (W : Wo) (as : List Nat) (ms : List Fo) (wt : Nat), vs = [.ref tr, v, .ref a] ∧ TrI CT H tr fm bx pt wt ∧ FmH CM H fm mk kn kp ms ∧ tr ≠ fm ∧ WoH K H v W ∧ SqT K H a (as.map fun n : Nat => V.int n) ∧ as.length = (askB W).length ∧ (∀ x ∈ as, x < ms.length) ∧ ms.length ≤ 5000 ∧ wt ≤ 5000 ∧
  ∀ H', Ex [tr, mk, kn, kp] H H' → TrI CT H' tr fm bx pt (formB ms wt as W).2.1 → FmH CM H' fm mk kn kp (formB ms wt as W).1 → Q (optV (formB ms wt as W).2.2) H'
theorem TrI.ne {CM CT : Addr} {H : Hp} {tr fm bx pt mk kn kp : Addr} {wt : Nat} {ms : List Fo} (h : TrI CT H tr fm bx pt wt) (g : FmH CM H fm mk kn kp ms) : tr ≠ mk ∧ tr ≠ kn ∧ tr ≠ kp := by
  obtain ⟨dx, fs, h1, _⟩ := h
  obtain ⟨_, ⟨vs, h2, _⟩, h4, h5, _⟩ := g
  exact ⟨ne_of h1 h2 (by intro z; cases z), ne_of h1 h4 (by intro z; cases z), ne_of h1 h5 (by intro z; cases z)⟩
theorem ok_form_by {f CM CT fM f1 pA : Addr} {fd fdM d1 : FuncData} {k : Nat} (F : Fun K "form_by" "Trace.form_by" s_form_by f fd) (T : TT K mg CT) (TMk : TM K mg CM) (GM : FnOk P w K mg base CX0 k fM fdM ["self", "making"] (spMade CM)) (mM : Meth K CM "made" fM) (bM : Binds K fdM ["self", "making"] [])
    (C_choices_of : Cl P w K mg base k "choices_of" ["word"] (spChoices K) f1 d1) (g_PUT : mg "PUTTING" = some (.ref pA)) (hpA : ∀ H, SqT K H pA (putL.map V.str)) : FnOk P w K mg base CX0 (k + 1) f fd ["self", "word", "asked"] (spFormBy K CM CT) := by
  refine F.ok sc_form_by (fun vs H Q E h => ?_) (fun cdv A outer s H vs Q E hr h => ?_)
  · obtain ⟨tr, fm, bx, pt, mk, kn, kp, a, v, W, as, ms, wt, rfl, _⟩ := h; rfl
  · obtain ⟨tr, fm, bx, pt, mk, kn, kp, b, v, W, as, ms, wt, rfl, hT, hF, ntf, ⟨a, xs, rfl, hs, hx⟩, hb, hal, hav, hml, hwl, q⟩ := h
    refine ⟨_, (pss_cons (ps_if (pt_cmpR op_eq (pe_ix ix_tup (pv 1) pe_int (fun _ _ => rfl)) pe_str (nomark _)) (pss_one (ps_ret (pe_fld (pe_fld (pv 0) rfl) rfl))) pss_nil)
      (pss_cons (ps_if (pt_cmpR op_eq (pe_ix ix_tup (pv 1) pe_int (fun _ _ => rfl)) pe_str (nomark _)) (pss_one (ps_ret (pe_ix ix_tup (pv 2) pe_int (fun _ _ => rfl)))) pss_nil)
      (pss_cons (ps_if (pt_cmpR op_eq (pe_ix ix_tup (pv 1) pe_int (fun _ _ => rfl)) pe_str (nomark _)) (pss_one (ps_ret (pe_meth (pe_fld (pv 0) rfl) TMk.cl mM GM hr bM .nil pass0 (pa_cons (pe_tup (pa_cons pe_str (pa_cons (pe_ix ix_tup (pv 1) pe_int (fun _ _ => rfl)) pa_nil))) pa_nil)))) pss_nil)
      (pss_cons (ps_if (pt_cmpR op_gt (pe_call C_choices_of.g hr (by rfl) C_choices_of.m C_choices_of.k C_choices_of.b .nil pass0 (pa_cons (pv 1) pa_nil)) pe_int (nomark _)) (pss_cons (ps_fldaug (pv 0) pe_int ip_add)
        (pss_one (ps_ret (pe_meth (pe_fld (pv 0) rfl) TMk.cl mM GM hr bM .nil pass0 (pa_cons (pe_tup (pa_cons (pe_ix ix_tup (pv 1) pe_int (fun _ _ => rfl)) (pa_cons (pe_fld (pv 0) rfl) pa_nil))) pa_nil))))) pss_nil)
      (pss_one (ps_ret (pe_ifExp (pt_cmpR op_in_seq (pe_ix ix_tup (pv 1) pe_int (fun _ _ => rfl)) (pe_glob (v := .ref pA) rfl g_PUT rfl) rfl) (pe_meth (pe_fld (pv 0) rfl) TMk.cl mM GM hr bM .nil pass0 (pa_cons (pe_tup (pa_cons (pe_ix ix_tup (pv 1) pe_int (fun _ _ => rfl)) (StX.pa_star (pv 2) pa_nil))) pa_nil)) pe_non))))))), ?_⟩
    have hW : WoH K H (.ref a) W := ⟨a, xs, rfl, hs, hx⟩
    obtain ⟨e1, e2, e3⟩ := hT.ne hF
    obtain ⟨dx, fs, t1, t2, t3, t4, t5, t6, t7, t8, t9, t10⟩ := id hT
    obtain ⟨⟨dm, gs, h1, l1, l2, l3, l4, l5, l6, l7⟩, r⟩ := id hF
    have flat6 : (putL.map V.str).all flatV = true := by decide +kernel
    have mo : ∀ (m : Fo) (t : Addr) (nt : H t = none), MkOk ms.length m → ∀ Q', (∀ H', Ex [tr, mk, kn, kp] H H' → TrI CT H' tr fm bx pt wt → FmH CM H' fm mk kn kp (made ms m).1 → Q' (.int (made ms m).2) H') → spMade CM [.ref fm, .ref t] (upd H t (.tup (mkV m))) Q' (fun _ _ _ => False) := fun m t nt hm Q' q' => by
      have xt : Ex [] H (upd H t (.tup (mkV m))) := .new nt
      exact ⟨fm, mk, kn, kp, .ref t, m, ms, _, rfl, hF.nil xt, ⟨t, rfl, upd_same⟩, hm, hml, fun H' x F' => q' H' (xt.nil.trans (x.mono (by simp))) ((hT.ex xt (by simp)).ex x (by simp [e1, e2, e3])) F'⟩
    cases W with
    | wipe b' =>
      obtain ⟨v, rfl, _⟩ := hx
      refine ⟨.ref a, rfl, a, _, 0, _, rfl, rfl, hs, at0, rfl, _, rfl, sY ?_⟩
      exact ⟨.ref tr, rfl, tr, CT, dx, fs, .ref fm, rfl, t1, T.cl, T.n0, t2, fm, CM, dm, gs, .int 0, rfl, h1, TMk.cl, TMk.n3, l4, q H .refl hT hF⟩
    | copy b' c =>
      obtain ⟨v, u, rfl, _⟩ := hx
      refine ⟨.ref a, rfl, a, _, 0, _, rfl, rfl, hs, at0, rfl, _, rfl, sN (by decide +kernel) ?_⟩
      refine ⟨.ref a, rfl, a, _, 0, _, rfl, rfl, hs, at0, rfl, _, rfl, sY ?_⟩
      match as, hal, hb with
      | [i], _, hb => exact ⟨.ref b, rfl, b, _, 0, _, rfl, rfl, hb, at0, q H .refl hT hF⟩
    | number b' n =>
      obtain ⟨v, rfl, _⟩ := hx
      refine ⟨.ref a, rfl, a, _, 0, _, rfl, rfl, hs, at0, rfl, _, rfl, sN (by decide +kernel) ?_⟩
      refine ⟨.ref a, rfl, a, _, 0, _, rfl, rfl, hs, at0, rfl, _, rfl, sN (by decide +kernel) ?_⟩
      refine ⟨.ref a, rfl, a, _, 0, _, rfl, rfl, hs, at0, rfl, _, rfl, sY ?_⟩
      refine ⟨.ref tr, rfl, tr, CT, dx, fs, .ref fm, rfl, t1, T.cl, T.n0, t2, fm, dm, gs, rfl, h1, l5, .ref a, rfl, a, _, 2, _, rfl, rfl, hs, at2, (by show 2 ≤ sizeLine; decide), fun t nt => ?_⟩
      exact mo (.number n) t nt trivial _ q
    | take b' s =>
      obtain ⟨v, rfl, _⟩ := hx
      refine ⟨.ref a, rfl, a, _, 0, _, rfl, rfl, hs, at0, rfl, _, rfl, sN (by decide +kernel) ?_⟩
      refine ⟨.ref a, rfl, a, _, 0, _, rfl, rfl, hs, at0, rfl, _, rfl, sN (by decide +kernel) ?_⟩
      refine ⟨.ref a, rfl, a, _, 0, _, rfl, rfl, hs, at0, rfl, _, rfl, sN (by decide +kernel) ?_⟩
      refine ⟨.ref a, rfl, .ref a, _, rfl, hW, 10000, 0, rfl, rfl, _, rfl, itD (by decide) ?_⟩
      refine ⟨.ref tr, rfl, tr, CT, dx, fs, .int wt, rfl, t1, T.cl, T.n2, t4, wt, 1, rfl, rfl, dx, fs, t1, by omega, ?_⟩
      have x1' : Ex [tr] H (upd H tr (.ins CT dx (putF "wanted" (.int ((wt : Int) + 1)) fs))) := .put t1 (fun _ z => by cases z) (by simp)
      have x1 : Ex [tr, mk, kn, kp] H (upd H tr (.ins CT dx (putF "wanted" (.int ((wt : Int) + 1)) fs))) := .put t1 (fun _ z => by cases z) (by simp)
      have T1 : TrI CT (upd H tr (.ins CT dx (putF "wanted" (.int ((wt : Int) + 1)) fs))) tr fm bx pt (wt + 1) := by
        refine ⟨dx, _, upd_same, ?_, ?_, ?_, ?_, ?_, ?_, ?_, ?_, ?_⟩
        · rw [lookup_putF, if_neg (by decide +kernel)]; exact t2
        · rw [lookup_putF, if_neg (by decide +kernel)]; exact t3
        · rw [lookup_putF, if_pos rfl]; rfl
        · rw [lookup_putF, if_neg (by decide +kernel)]; exact t5
        · rw [lookup_putF, if_neg (by decide +kernel)]; exact t6
        · rw [lookup_putF, if_neg (by decide +kernel)]; exact t7
        · rw [lookup_putF, if_neg (by decide +kernel)]; exact t8
        · rw [lookup_putF, if_neg (by decide +kernel)]; exact t9
        · rw [putF_len (by rw [t4]; simp)]; exact t10
      have F1 := hF.ex x1' (by simpa using ntf.symm) (by simpa using e1.symm) (by simpa using e2.symm) (by simpa using e3.symm)
      obtain ⟨dx1, fs1, u1, u2, u3, u4, u5⟩ := id T1
      obtain ⟨⟨dm1, gs1, v1, w1, w2, w3, w4, w5, w6⟩, r1⟩ := id F1
      have hs1 := x1'.seqT hs
      generalize upd H tr (.ins CT dx (putF "wanted" (.int ((wt : Int) + 1)) fs)) = H1 at x1 x1' T1 F1 u1 v1 hs1 r1 ⊢
      refine ⟨.ref tr, rfl, tr, CT, dx1, fs1, .ref fm, rfl, u1, T.cl, T.n0, u2, fm, dm1, gs1, rfl, v1, w5, .ref a, rfl, a, _, 0, _, rfl, rfl, hs1, at0, .ref tr, rfl, tr, CT, dx1, fs1, .int (wt + 1 : Nat), rfl, u1, T.cl, T.n2, u4, (by show 2 ≤ sizeLine; decide), fun t nt => ?_⟩
      have xt : Ex [] H1 (upd H1 t (.tup (mkV (.take (wt + 1))))) := .new nt
      exact ⟨fm, mk, kn, kp, .ref t, .take (wt + 1), ms, _, rfl, F1.nil xt, ⟨t, rfl, upd_same⟩, trivial, hml, fun H' x F' => q H' (x1.trans (xt.nil.trans (x.mono (by simp)))) ((T1.ex xt (by simp)).ex x (by simp [e1, e2, e3])) F'⟩
    | ask b' =>
      obtain ⟨v, rfl, _⟩ := hx
      refine ⟨.ref a, rfl, a, _, 0, _, rfl, rfl, hs, at0, rfl, _, rfl, sN (by decide +kernel) ?_⟩
      refine ⟨.ref a, rfl, a, _, 0, _, rfl, rfl, hs, at0, rfl, _, rfl, sN (by decide +kernel) ?_⟩
      refine ⟨.ref a, rfl, a, _, 0, _, rfl, rfl, hs, at0, rfl, _, rfl, sN (by decide +kernel) ?_⟩
      refine ⟨.ref a, rfl, .ref a, _, rfl, hW, 10000, 0, rfl, rfl, _, rfl, itD (by decide) ?_⟩
      refine ⟨.ref tr, rfl, tr, CT, dx, fs, .int wt, rfl, t1, T.cl, T.n2, t4, wt, 1, rfl, rfl, dx, fs, t1, by omega, ?_⟩
      have x1' : Ex [tr] H (upd H tr (.ins CT dx (putF "wanted" (.int ((wt : Int) + 1)) fs))) := .put t1 (fun _ z => by cases z) (by simp)
      have x1 : Ex [tr, mk, kn, kp] H (upd H tr (.ins CT dx (putF "wanted" (.int ((wt : Int) + 1)) fs))) := .put t1 (fun _ z => by cases z) (by simp)
      have T1 : TrI CT (upd H tr (.ins CT dx (putF "wanted" (.int ((wt : Int) + 1)) fs))) tr fm bx pt (wt + 1) := by
        refine ⟨dx, _, upd_same, ?_, ?_, ?_, ?_, ?_, ?_, ?_, ?_, ?_⟩
        · rw [lookup_putF, if_neg (by decide +kernel)]; exact t2
        · rw [lookup_putF, if_neg (by decide +kernel)]; exact t3
        · rw [lookup_putF, if_pos rfl]; rfl
        · rw [lookup_putF, if_neg (by decide +kernel)]; exact t5
        · rw [lookup_putF, if_neg (by decide +kernel)]; exact t6
        · rw [lookup_putF, if_neg (by decide +kernel)]; exact t7
        · rw [lookup_putF, if_neg (by decide +kernel)]; exact t8
        · rw [lookup_putF, if_neg (by decide +kernel)]; exact t9
        · rw [putF_len (by rw [t4]; simp)]; exact t10
      have F1 := hF.ex x1' (by simpa using ntf.symm) (by simpa using e1.symm) (by simpa using e2.symm) (by simpa using e3.symm)
      obtain ⟨dx1, fs1, u1, u2, u3, u4, u5⟩ := id T1
      obtain ⟨⟨dm1, gs1, v1, w1, w2, w3, w4, w5, w6⟩, r1⟩ := id F1
      have hs1 := x1'.seqT hs
      generalize upd H tr (.ins CT dx (putF "wanted" (.int ((wt : Int) + 1)) fs)) = H1 at x1 x1' T1 F1 u1 v1 hs1 r1 ⊢
      refine ⟨.ref tr, rfl, tr, CT, dx1, fs1, .ref fm, rfl, u1, T.cl, T.n0, u2, fm, dm1, gs1, rfl, v1, w5, .ref a, rfl, a, _, 0, _, rfl, rfl, hs1, at0, .ref tr, rfl, tr, CT, dx1, fs1, .int (wt + 1 : Nat), rfl, u1, T.cl, T.n2, u4, (by show 2 ≤ sizeLine; decide), fun t nt => ?_⟩
      have xt : Ex [] H1 (upd H1 t (.tup (mkV (.ask (wt + 1))))) := .new nt
      exact ⟨fm, mk, kn, kp, .ref t, .ask (wt + 1), ms, _, rfl, F1.nil xt, ⟨t, rfl, upd_same⟩, trivial, hml, fun H' x F' => q H' (x1.trans (xt.nil.trans (x.mono (by simp)))) ((T1.ex xt (by simp)).ex x (by simp [e1, e2, e3])) F'⟩
    | mix b' c d =>
      obtain ⟨v, u, z, rfl, _⟩ := hx
      refine ⟨.ref a, rfl, a, _, 0, _, rfl, rfl, hs, at0, rfl, _, rfl, sN (by decide +kernel) ?_⟩
      refine ⟨.ref a, rfl, a, _, 0, _, rfl, rfl, hs, at0, rfl, _, rfl, sN (by decide +kernel) ?_⟩
      refine ⟨.ref a, rfl, a, _, 0, _, rfl, rfl, hs, at0, rfl, _, rfl, sN (by decide +kernel) ?_⟩
      refine ⟨.ref a, rfl, .ref a, _, rfl, hW, 0, 0, rfl, rfl, _, rfl, itN (by decide) ?_⟩
      refine ⟨.ref a, rfl, a, _, 0, _, rfl, rfl, hs, at0, pA, _, rfl, .inr (hpA _), rfl, flat6, _, rfl, inY (by decide +kernel) ?_⟩
      match as, hal, hb, hav, q with
      | [i, j], _, hb, hav, q =>
        refine ⟨.ref tr, rfl, tr, CT, dx, fs, .ref fm, rfl, t1, T.cl, T.n0, t2, fm, dm, gs, rfl, h1, l5, .ref a, rfl, a, _, 0, _, rfl, rfl, hs, at0, .ref b, rfl, b, _, rfl, .inl hb, (by show 3 ≤ sizeLine; decide), fun t nt => ?_⟩
        exact mo (.mix i j) t nt ⟨hav i (by simp), hav j (by simp)⟩ _ q
    | opn b' c =>
      obtain ⟨v, u, rfl, _⟩ := hx
      refine ⟨.ref a, rfl, a, _, 0, _, rfl, rfl, hs, at0, rfl, _, rfl, sN (by decide +kernel) ?_⟩
      refine ⟨.ref a, rfl, a, _, 0, _, rfl, rfl, hs, at0, rfl, _, rfl, sN (by decide +kernel) ?_⟩
      refine ⟨.ref a, rfl, a, _, 0, _, rfl, rfl, hs, at0, rfl, _, rfl, sN (by decide +kernel) ?_⟩
      refine ⟨.ref a, rfl, .ref a, _, rfl, hW, 0, 0, rfl, rfl, _, rfl, itN (by decide) ?_⟩
      refine ⟨.ref a, rfl, a, _, 0, _, rfl, rfl, hs, at0, pA, _, rfl, .inr (hpA _), rfl, flat6, _, rfl, inY (by decide +kernel) ?_⟩
      match as, hal, hb, hav, q with
      | [i], _, hb, hav, q =>
        refine ⟨.ref tr, rfl, tr, CT, dx, fs, .ref fm, rfl, t1, T.cl, T.n0, t2, fm, dm, gs, rfl, h1, l5, .ref a, rfl, a, _, 0, _, rfl, rfl, hs, at0, .ref b, rfl, b, _, rfl, .inl hb, (by show 2 ≤ sizeLine; decide), fun t nt => ?_⟩
        exact mo (.opn i) t nt (hav i (by simp)) _ q
    | tell b' =>
      obtain ⟨v, rfl, _⟩ := hx
      refine ⟨.ref a, rfl, a, _, 0, _, rfl, rfl, hs, at0, rfl, _, rfl, sN (by decide +kernel) ?_⟩
      refine ⟨.ref a, rfl, a, _, 0, _, rfl, rfl, hs, at0, rfl, _, rfl, sN (by decide +kernel) ?_⟩
      refine ⟨.ref a, rfl, a, _, 0, _, rfl, rfl, hs, at0, rfl, _, rfl, sN (by decide +kernel) ?_⟩
      refine ⟨.ref a, rfl, .ref a, _, rfl, hW, 0, 0, rfl, rfl, _, rfl, itN (by decide) ?_⟩
      exact ⟨.ref a, rfl, a, _, 0, _, rfl, rfl, hs, at0, pA, _, rfl, .inr (hpA _), rfl, flat6, _, rfl, inN (by decide +kernel) (q H .refl hT hF)⟩
def spPut (K : PySem.W.Frag) (CM CT : Addr) : Sp := fun vs H Q _ => ∃ (tr fm bx pt mk kn kp a : Addr) (v : V) (W : Wo) (as : List Nat) (ms : List Fo) (wt : Nat) (tk : Bool) (dv : List (Bx × Nat)), vs = [.ref tr, v, .ref a] ∧ TrI CT H tr fm bx pt wt ∧ FmH CM H fm mk kn kp ms ∧ tr ≠ fm ∧ BdH H bx tk dv ∧ KdW tk W ∧ bx ≠ kn ∧ dv.length ≤ 5000 ∧ WoH K H v W ∧ SqT K H a (as.map fun n : Nat => V.int n) ∧ as.length = (askB W).length ∧ (∀ x ∈ as, x < ms.length) ∧ ms.length ≤ 5000 ∧ wt ≤ 5000 ∧
  ∀ H', Ex [tr, bx, mk, kn, kp] H H' → TrI CT H' tr fm bx pt (formB ms wt as W).2.1 → FmH CM H' fm mk kn kp (formB ms wt as W).1 → BdH H' bx tk (ptO dv (boxW W) (formB ms wt as W).2.2) → Q (optV (formB ms wt as W).2.2) H'
theorem BdH.ne {CM CT : Addr} {H : Hp} {tr fm bx pt mk kn kp bx' : Addr} {wt : Nat} {ms : List Fo} {tk : Bool} {dv : List (Bx × Nat)} (h : BdH H bx tk dv) (g : FmH CM H fm mk kn kp ms) (i : TrI CT H tr fm bx' pt wt) : bx ≠ tr ∧ bx ≠ fm ∧ bx ≠ mk ∧ bx ≠ kp := by
  obtain ⟨dx, fs, h1, _⟩ := i
  obtain ⟨⟨dm, gs, h0, _⟩, ⟨vs, h2, _⟩, h4, h5, _⟩ := g
  obtain ⟨_, h⟩ := h
  cases tk
  · exact ⟨ne_of h h1 (by intro z; cases z), ne_of h h0 (by intro z; cases z), ne_of h h2 (by intro z; cases z), ne_of h h5 (by intro z; cases z)⟩
  · exact ⟨ne_of h h1 (by intro z; cases z), ne_of h h0 (by intro z; cases z), ne_of h h2 (by intro z; cases z), ne_of h h5 (by intro z; cases z)⟩
theorem WoX.box {H : Hp} {W : Wo} {xs : List V} (h : WoX H W xs) : ∃ k v r, xs = .str k :: v :: r ∧ BxT H v (boxW W) := by
  cases W with
  | take b s => obtain ⟨v, h1, h2⟩ := h; exact ⟨_, v, _, h1, h2⟩
  | ask b => obtain ⟨v, h1, h2⟩ := h; exact ⟨_, v, _, h1, h2⟩
  | number b n => obtain ⟨v, h1, h2⟩ := h; exact ⟨_, v, _, h1, h2⟩
  | copy b c => obtain ⟨v, u, h1, h2, h3⟩ := h; exact ⟨_, v, _, h1, h2⟩
  | mix b c d => obtain ⟨v, u, z, h1, h2, h3, h4⟩ := h; exact ⟨_, v, _, h1, h2⟩
  | opn b c => obtain ⟨v, u, h1, h2, h3⟩ := h; exact ⟨_, v, _, h1, h2⟩
  | tell b => obtain ⟨v, h1, h2⟩ := h; exact ⟨_, v, _, h1, h2⟩
  | wipe b => obtain ⟨v, h1, h2⟩ := h; exact ⟨_, v, _, h1, h2⟩
theorem ok_put {f CM CT fB : Addr} {fd fdB : FuncData} {k : Nat} (F : Fun K "put" "Trace.put" s_put f fd) (T : TT K mg CT) (GB : FnOk P w K mg base CX0 k fB fdB ["self", "word", "asked"] (spFormBy K CM CT)) (mB : Meth K CT "form_by" fB) (bB : Binds K fdB ["self", "word", "asked"] []) : FnOk P w K mg base CX0 (k + 1) f fd ["self", "word", "asked"] (spPut K CM CT) := by
  refine F.ok sc_put (fun vs H Q E h => ?_) (fun cdv A outer s H vs Q E hr h => ?_)
  · obtain ⟨tr, fm, bx, pt, mk, kn, kp, a, v, W, as, ms, wt, tk, dv, rfl, _⟩ := h; rfl
  · obtain ⟨tr, fm, bx, pt, mk, kn, kp, b, v, W, as, ms, wt, tk, dv, rfl, hT, hF, ntf, hB, kw, nbk, hdl, hW, hb, hal, hav, hml, hwl, q⟩ := h
    refine ⟨_, (pss_cons (ps_set (i := 3) sc_put.nd rfl (.inl rfl) (pe_meth (pv 0) T.cl mB GB hr bB .nil pass0 (pa_cons (pv 1) (pa_cons (pv 2) pa_nil))))
      (pss_cons (ps_if (pt_cmpR op_notN (pv 3) pe_non (nomark _)) (pss_one (ps_dput (hu_of hr) (pe_fld (pv 0) rfl) (pe_ix ix_tup (pv 1) pe_int (fun _ _ => rfl)) (pv 3) rfl)) pss_nil)
      (pss_one (ps_ret (pv 3))))), ?_⟩
    obtain ⟨dx, fs, t1, t2, t3, t4, t5, t6, t7, t8, t9, t10⟩ := id hT
    obtain ⟨n1, n2, n3, n4⟩ := hB.ne hF hT
    refine ⟨.ref tr, rfl, tr, dx, fs, rfl, t1, t7, v, rfl, .ref b, rfl, tr, fm, bx, pt, mk, kn, kp, b, v, W, as, ms, wt, rfl, hT, hF, ntf, hW, hb, hal, hav, hml, hwl, fun H1 x1 T1 F1 => ?_⟩
    have B1 := hB.ex x1 (by simp [n1, n3, n4, nbk])
    have W1 := hW.ex x1
    have x1' : Ex [tr, bx, mk, kn, kp] H H1 := x1.mono (fun z hz => by simp only [List.mem_cons, List.not_mem_nil, or_false] at hz ⊢; rcases hz with rfl | rfl | rfl | rfl <;> simp)
    refine ⟨_, rfl, rfl, _, rfl, ?_⟩
    cases ef : (formB ms wt as W).2.2 with
    | none =>
      rw [ef] at q
      refine iteF ⟨_, rfl, ?_⟩
      exact q H1 x1' T1 F1 B1
    | some n =>
      rw [ef] at q
      obtain ⟨dx1, fs1, u1, u2, u3, u4⟩ := id T1
      obtain ⟨a, xs, rfl, hs, hx⟩ := W1
      obtain ⟨kd, vb, r, rfl, hvb⟩ := hx.box
      obtain ⟨H2, p2, x2, B2⟩ := B1.put (n := n) kw.1 hvb (Nat.lt_of_le_of_lt hdl (by decide))
      refine iteT ⟨_, rfl, .ref tr, rfl, tr, CT, dx1, fs1, .ref bx, rfl, u1, T.cl, T.n1, u3, .ref a, rfl, a, _, 1, _, rfl, rfl, hs, at1, bx, H2, rfl, p2, ?_⟩
      refine ⟨_, rfl, ?_⟩
      exact q H2 (x1'.trans (x2.mono (by simp))) (T1.ex x2 (by simpa using n1.symm)) (F1.ex x2 (by simpa using n2.symm) (by simpa using n3.symm) (by simpa using nbk.symm) (by simpa using n4.symm)) B2
end
end K48

set_option maxHeartbeats 4000000
namespace K48
open PySem PySem.Spec PyProof.Rows L2 Kk
abbrev s_tinit : Stmt := inClass (topS 26) 0
abbrev n_tinit : List Str := ["self", "row", "forms", "word", "asked", "put", "box"]
theorem sc_tinit : FnScope n_tinit ["self", "row", "forms"] (defScope s_tinit) := ⟨rfl, rfl, rfl, by decide +kernel, rfl, by decide +kernel, by decide +kernel⟩
theorem pi_or {X : Cx} {tg it : Expr} {a b : TI} (ha : PI X tg it a) (hb : PI X tg it b) : PI X tg it (fun σ H R => a σ H R ∨ b σ H R) := ⟨fun pins s σ H R I h => h.elim (ha.run pins s σ H R I) (hb.run pins s σ H R I)⟩
theorem pe_or2 {X : Cx} {e : Expr} {a b : TE} (ha : PE X e a) (hb : PE X e b) : PE X e (fun σ H Q => a σ H Q ∨ b σ H Q) := ⟨fun pins s σ H Q I h => h.elim (ha.run pins s σ H Q I) (hb.run pins s σ H Q I)⟩
theorem pe_dnewE {X : Cx} {pos : Pos} : PE X (.Dict [] [] pos) (fun _ H Q => ∃ tk : Bool, ∀ p, H p = none → Q (.ref p) (upd H p (cond tk (.dK []) (.dT [])))) := ⟨fun pins s σ H Q I h => by
  obtain ⟨tk, h⟩ := h
  cases tk
  · exact pe_dnewT.run pins s σ H Q I h
  · exact pe_dnewK.run pins s σ H Q I h⟩
theorem pe_fldK {X : Cx} {K : PySem.W.Frag} {e : Expr} {f : Str} {pos : Pos} {ta : TE} (hK : X.K = K) (he : PE X e ta) (hb : attributeBase e f X.env (eval e X.env) = eval e X.env) : PE X (.Attribute e f pos) (tFld K ta f) := by subst hK; exact pe_fld he hb
/-- a part of a trace -/
def PartH (K : PySem.W.Frag) (H : Hp) (v : V) (p : Wo × List Nat × Option Nat) : Prop := ∃ t wv a, v = .ref t ∧ H t = some (.tup [wv, .ref a, optV p.2.2]) ∧ WoH K H wv p.1 ∧ SqT K H a (p.2.1.map fun n : Nat => V.int n)
theorem PartH.ex {K : PySem.W.Frag} {H H' : Hp} {v : V} {p : Wo × List Nat × Option Nat} {xs : List Addr} (h : PartH K H v p) (e : Ex xs H H') : PartH K H' v p := by
  obtain ⟨t, wv, a, rfl, h1, h2, h3⟩ := h
  exact ⟨t, wv, a, rfl, e.tup h1, h2.ex e, e.seqT h3⟩
theorem runT_snoc (t : Ts) (ws : List Wo) (W : Wo) : runT t (ws ++ [W]) = stepT (runT t ws) W := by unfold runT; rw [List.foldl_append]; rfl
/-- what stays true of a trace -/
structure TsOk (n0 : Nat) (i : Nat) (t : Ts) : Prop where
  p : 0 < t.ms.length
  l : t.ms.length ≤ n0 + i
  w : t.wt ≤ i
  d : t.dv.length ≤ i
  v : ∀ x ∈ t.dv, x.2 < t.ms.length
theorem stepT_ok {n0 i : Nat} {t : Ts} {W : Wo} (h : TsOk n0 i t) : TsOk n0 (i + 1) (stepT t W) := by
  obtain ⟨h1, h2, h3, h4, h5⟩ := h
  have ha : ∀ x ∈ (askB W).map (gt t.dv), x < t.ms.length := fun x hx => by
    obtain ⟨b, _, rfl⟩ := List.mem_map.mp hx
    exact gt_lt h1 h5 b
  obtain ⟨g1, g2, g3⟩ := formB_len (ms := t.ms) (wt := t.wt) (as := (askB W).map (gt t.dv)) (W := W)
  refine ⟨?_, ?_, ?_, ?_, ?_⟩
  · exact Nat.lt_of_lt_of_le h1 g1
  · exact Nat.le_trans g2 (by omega)
  · exact Nat.le_trans g3 (by omega)
  · show (ptO t.dv (boxW W) _).length ≤ i + 1
    cases (formB t.ms t.wt ((askB W).map (gt t.dv)) W).2.2 with
    | none => exact Nat.le_succ_of_le h4
    | some n => exact Nat.le_trans ptB_len (by omega)
  · intro x hx
    have hx : x ∈ ptO t.dv (boxW W) (formB t.ms t.wt ((askB W).map (gt t.dv)) W).2.2 := hx
    show x.2 < (formB t.ms t.wt ((askB W).map (gt t.dv)) W).1.length
    cases e : (formB t.ms t.wt ((askB W).map (gt t.dv)) W).2.2 with
    | none => rw [e] at hx; exact Nat.lt_of_lt_of_le (h5 x hx) g1
    | some n =>
      rw [e] at hx
      rcases ptB_mem hx with rfl | hx
      · exact formB_lt h1 ha e
      · exact Nat.lt_of_lt_of_le (h5 x hx) g1
theorem runT_ok {n0 : Nat} {t : Ts} (h : TsOk n0 0 t) (ws : List Wo) : TsOk n0 ws.length (runT t ws) := by
  have : ∀ n (ws : List Wo), ws.length = n → TsOk n0 n (runT t ws) := by
    intro n
    induction n with
    | zero => intro ws e; rw [List.length_eq_zero_iff.mp e]; exact h
    | succ n ih =>
      intro ws e
      rcases List.eq_nil_or_concat ws with z | ⟨r, a, z⟩
      · rw [z] at e; cases e
      · rw [List.concat_eq_append] at z
        rw [z, runT_snoc]
        exact stepT_ok (ih r (by rw [z, List.length_append] at e; simpa using e))
  exact this _ ws rfl
theorem tyes_if {σ : L2.St} {H : Hp} {N tb : Hp → Prop} (h : tb H) : tYes σ H (fun b H3 => if b = true then tb H3 else N H3) := by
  show (if true = true then tb H else N H)
  rw [if_pos rfl]; exact h
section
variable {P : Program} {w : World} {K : PySem.W.Frag} {mg : Str → Option Value} {base : Heap}
/-- the tuple of what is asked -/
def tAsked (K : PySem.W.Frag) (CT : Addr) : TE := fun σ H Q => ∃ (tr fm bx pt : Addr) (y1 : V) (wt : Nat) (wv : V) (y4 y5 : Option V) (W : Wo) (tk : Bool) (dv : List (Bx × Nat)) (CM dm : Addr) (gs : List (Str × V)), σ = [some (.ref tr), some y1, some (.ref fm), some wv, y4, y5, none] ∧ TrI CT H tr fm bx pt wt ∧ H fm = some (.ins CM dm gs) ∧ Cls K CM ∧ NoAttr K CM "zero" ∧ gs.lookup ("zero" : Str) = some (.int 0) ∧ BdH H bx tk dv ∧ KdW tk W ∧ WoH K H wv W ∧ ∀ H' a, Ex [] H H' → SqT K H' a (((askB W).map (gt dv)).map fun n : Nat => V.int n) → Q (.ref a) H'
def spTrInit (K : PySem.W.Frag) (CM CT : Addr) : Sp := fun vs H Q _ => ∃ (p dx r fm mk kn kp : Addr) (xs : List V) (ws : List Wo) (tk : Bool) (ms : List Fo), vs = [.ref p, .ref r, .ref fm] ∧ H p = some (.ins CT dx []) ∧ FmH CM H fm mk kn kp ms ∧ p ≠ fm ∧ (SqT K H r xs ∨ (H r = some (.lst xs) ∧ r ≠ mk ∧ r ≠ kp)) ∧ P2 (WoH K H) xs ws ∧ (∀ W ∈ ws, KdW tk W) ∧ ws.length ≤ 2000 ∧ 0 < ms.length ∧ ms.length ≤ 2500 ∧
  ∀ H' bx pt pvs, Ex [p, mk, kn, kp] H H' → TrI CT H' p fm bx pt (runT ⟨ms, [], 0, []⟩ ws).wt → FmH CM H' fm mk kn kp (runT ⟨ms, [], 0, []⟩ ws).ms → BdH H' bx tk (runT ⟨ms, [], 0, []⟩ ws).dv → H' pt = some (.lst pvs) → P2 (PartH K H') pvs (runT ⟨ms, [], 0, []⟩ ws).ps → H bx = none → H pt = none → Q .non H'
theorem ok_trinit {f CM CT fP f1 : Addr} {fd fdP d1 : FuncData} {k : Nat} (F : Fun K "__init__" "Trace.__init__" s_tinit f fd) (T : TT K mg CT) (TMk : TM K mg CM) (GP : FnOk P w K mg base CX0 k fP fdP ["self", "word", "asked"] (spPut K CM CT)) (mP : Meth K CT "put" fP) (bP : Binds K fdP ["self", "word", "asked"] [])
    (C_asked_by : Cl P w K mg base k "asked_by" ["word"] (spAsked K) f1 d1) (m_tuple : mg "tuple" = none) : FnOk P w K mg base CX0 (k + 1) f fd ["self", "row", "forms"] (spTrInit K CM CT) := by
  refine F.ok sc_tinit (fun vs H Q E h => ?_) (fun cdv A outer s H vs Q E hr h => ?_)
  · obtain ⟨p, dx, r, fm, mk, kn, kp, xs, ws, tk, ms, rfl, _⟩ := h; rfl
  · obtain ⟨p, dx, r, fm, mk, kn, kp, xs, ws, tk, ms, rfl, hp, hF, npf, hr0, hws, hkd, hwl, hm0, hml, q⟩ := h
    refine ⟨_, (pss_cons (ps_fld (pv 0) (pv 2) rfl)
      (pss_cons (ps_fld (pv 0) pe_dnewE rfl)
      (pss_cons (ps_fld (pv 0) pe_int rfl)
      (pss_cons (ps_fld (pv 0) (pe_lst pa_nil) rfl)
      (pss_one (ps_for PassesOwn.never rfl (pi_or (pi_list (pv 1)) (pi_tup (pv 1))) (pg_name (i := 3) sc_tinit.nd rfl (.inl rfl)) (pss_cons (ps_set (i := 4) sc_tinit.nd rfl (.inl rfl) (PE.by (t' := tAsked K CT) (pe_callTy call_tuple_of (by rfl) m_tuple (by decide +kernel) (pa_cons (pe_lc (own := [("box", 6)]) (g := gName 6) (tt := tYes) rfl sc_tinit.nd (pi_tup (pe_call C_asked_by.g hr (by rfl) C_asked_by.m C_asked_by.k C_asked_by.b .nil pass0 (pa_cons (pv 3) pa_nil))) (blkOk_by (N := n_tinit) (sc := defScope s_tinit) (by decide +kernel)) (fun _ _ _ _ _ => pg_name (i := 6) sc_tinit.nd rfl (Or.inl rfl)) (fun _ _ _ _ _ => pts_nil) (fun _ _ _ _ _ => (pe_dget2 (hu_of hr) (pe_fldK (K := K) rfl (pv 0) rfl) (pv 6) (pe_fldK (K := K) rfl (pv 2) rfl) ⟨rfl, rfl, rfl, rfl⟩))) pa_nil)) (by
          rintro σ H Q ⟨tr, fm, bx, pt, y1, wt, wv, y4, y5, W, tk, dv, CM, dm, gs, rfl, hT, hM, cM, nM, zM, hB, kw, hW, q⟩
          refine ⟨wv, rfl, wv, W, rfl, hW, fun H1 ap ys x1 hs1 hp1 => ?_⟩
          refine ⟨ap, rfl, ⟨_, hs1⟩, fun D nD => ?_⟩
          obtain ⟨dx, fs, t1, t2, t3, _⟩ := hT.ex x1 (by simp)
          have hM1 : H1 fm = some (.ins CM dm gs) := x1.a fm _ (by simp) hM (fun _ z => by cases z)
          have hB1 := hB.ex x1 (by simp)
          obtain ⟨ob, ho, _⟩ := hB1.ob
          have Dtr : tr ≠ D := ne_of_none t1 nD
          have Dfm : fm ≠ D := ne_of_none hM1 nD
          have Dbx : bx ≠ D := ne_of_none ho nD
          have lys := hp1.len
          have ask3 : (askB W).length ≤ 2 := by cases W <;> simp [askB]
          have xD : Ex [] H1 (upd H1 D (.lst [])) := .new nD
          refine lc_it (walk_tup (K := K) (a := ap) (xs := ys)) (fun i H2 => H2 D = some (.lst ((((askB W).take i).map (gt dv)).map fun n : Nat => V.int n)) ∧ Ex [D] (upd H1 D (.lst [])) H2) ⟨upd_same, .refl⟩ (fun i H2 _ h => h.2.seqT (xD.seqT hs1)) ?_ ?_
          · rintro i v H0 H2 hi ⟨hD2, x2⟩ ⟨rfl, hx⟩
            obtain ⟨b, hb1, hb2⟩ := hp1.getL hx
            refine ⟨rfl, tyes_if ?_⟩
            have t12 : H2 tr = some (.ins CT dx fs) := x2.a tr _ (by simpa using Dtr) (by rw [upd_ne Dtr]; exact t1) (fun _ z => by cases z)
            have m12 : H2 fm = some (.ins CM dm gs) := x2.a fm _ (by simpa using Dfm) (by rw [upd_ne Dfm]; exact hM1) (fun _ z => by cases z)
            have b12 := (hB1.ex xD (by simp)).ex x2 (by simpa using Dbx)
            have hbk : isS b = tk := kw.2 b (List.mem_of_getElem? hb1)
            refine ⟨.ref tr, rfl, tr, CT, dx, fs, .ref bx, rfl, t12, T.cl, T.n1, t3, bx, rfl, b12.isD, v, rfl, .ref fm, rfl, fm, CM, dm, gs, .int 0, rfl, m12, cM, nM, zM, _, b12.get hbk ((hb2.ex xD).ex x2), ?_⟩
            have hli : i < (askB W).length := by rw [← lys]; exact hi
            refine ⟨_, hD2, ?_, ?_, ?_⟩
            · rw [List.length_map, List.length_map, List.length_take]; exact Nat.lt_of_le_of_lt (show min i (askB W).length ≤ 2 by omega) (by decide)
            · rw [upd_same]
              have e : (((gtO dv b).map fun n => V.int n).getD (.int 0)) = .int (gt dv b) := by unfold gt; cases gtO dv b <;> rfl
              rw [e]
              rw [show (askB W).take (i + 1) = (askB W).take i ++ [b] by rw [List.take_add_one, hb1]; rfl]
              rw [List.map_append, List.map_append]; rfl
            · exact x2.trans (.put hD2 nt_lst (by simp))
          · rintro H2 ⟨hD2, x2⟩
            have e : (askB W).take ys.length = askB W := by rw [lys]; exact List.take_length
            rw [e] at hD2
            refine ⟨D, _, rfl, .inl ⟨.of hD2, fun U nU => ?_⟩⟩
            refine q _ U (x1.trans ((Ex.own nD xD x2).trans (.new nU))) (.of upd_same))))
        (pss_cons (ps_set (i := 5) sc_tinit.nd rfl (.inl rfl) (pe_meth (pv 0) T.cl mP GP hr bP .nil pass0 (pa_cons (pv 3) (pa_cons (pv 4) pa_nil))))
        (pss_one (ps_expr (pe_bm PySem.F.plainAttrs_list PySem.F.slot_list_append PySem.F.type_list_append mt_append (pe_fld (pv 0) rfl) (pa_cons (pe_tup (pa_cons (pv 3) (pa_cons (pv 4) (pa_cons (pv 5) pa_nil)))) pa_nil)))))))))))), ?_⟩
    have put : ∀ {H1 : Hp} {fs fs' : List (Str × V)}, H1 p = some (.ins CT dx fs) → Ex [p] H1 (upd H1 p (.ins CT dx fs')) := fun h => .put h (fun _ z => by cases z) (by simp)
    obtain ⟨⟨dm, gs, hm1, gm1, gm2, gm3, gm4, gm5, gm6, gm7⟩, ⟨mvs, hm2, _⟩, hm3, hm4, hm5⟩ := id hF
    have npk : p ≠ mk ∧ p ≠ kn ∧ p ≠ kp := ⟨ne_of hp hm2 (by intro z; cases z), ne_of hp hm3 (by intro z; cases z), ne_of hp hm4 (by intro z; cases z)⟩
    have l0 : (([] : List (Str × V))).length ≤ 0 := Nat.le_refl _
    refine ⟨.ref fm, rfl, .ref p, rfl, p, CT, dx, [], rfl, hp, T.cl, T.n0, (by show 0 < 1000; decide), ?_⟩
    have l1 := lenF "forms" (.ref fm) l0
    have x1 : Ex [p] H (upd H p (.ins CT dx (putF "forms" (.ref fm) []))) := put hp
    have h1 : (upd H p (.ins CT dx (putF "forms" (.ref fm) []))) p = some (.ins CT dx (putF "forms" (.ref fm) [])) := upd_same
    generalize upd H p (.ins CT dx (putF "forms" (.ref fm) [])) = H1 at x1 h1 ⊢
    refine ⟨tk, fun bx nb => ?_⟩
    have pb : p ≠ bx := ne_of_none h1 nb
    have nb0 : H bx = none := x1.f _ nb
    refine ⟨.ref p, rfl, p, CT, dx, _, rfl, by rw [upd_ne pb]; exact h1, T.cl, T.n1, by omega, ?_⟩
    have l2 := lenF "boxes" (.ref bx) l1
    have x2 : Ex [p] H1 (upd (upd H1 bx (cond tk (.dK []) (.dT []))) p (.ins CT dx (putF "boxes" (.ref bx) (putF "forms" (.ref fm) [])))) := (Ex.new nb).trans (put (by rw [upd_ne pb]; exact h1))
    have h2 : (upd (upd H1 bx (cond tk (.dK []) (.dT []))) p (.ins CT dx (putF "boxes" (.ref bx) (putF "forms" (.ref fm) [])))) p = some (.ins CT dx (putF "boxes" (.ref bx) (putF "forms" (.ref fm) []))) := upd_same
    have b2 : BdH (upd (upd H1 bx (cond tk (.dK []) (.dT []))) p (.ins CT dx (putF "boxes" (.ref bx) (putF "forms" (.ref fm) [])))) bx tk [] := by
      refine ⟨by simp, ?_⟩
      cases tk
      · show upd _ p _ bx = _
        rw [upd_ne pb.symm, upd_same]; rfl
      · show upd _ p _ bx = _
        rw [upd_ne pb.symm, upd_same]; rfl
    generalize upd (upd H1 bx (cond tk (.dK []) (.dT []))) p (.ins CT dx (putF "boxes" (.ref bx) (putF "forms" (.ref fm) []))) = H2 at x2 h2 b2 ⊢
    refine ⟨.ref p, rfl, p, CT, dx, _, rfl, h2, T.cl, T.n2, by omega, ?_⟩
    have l3 := lenF "wanted" (.int 0) l2
    have x3 : Ex [p] H2 (upd H2 p (.ins CT dx (putF "wanted" (.int 0) (putF "boxes" (.ref bx) (putF "forms" (.ref fm) []))))) := put h2
    have h3 : (upd H2 p (.ins CT dx (putF "wanted" (.int 0) (putF "boxes" (.ref bx) (putF "forms" (.ref fm) []))))) p = some (.ins CT dx (putF "wanted" (.int 0) (putF "boxes" (.ref bx) (putF "forms" (.ref fm) [])))) := upd_same
    have b3 := b2.ex x3 (by simpa using pb.symm)
    generalize upd H2 p (.ins CT dx (putF "wanted" (.int 0) (putF "boxes" (.ref bx) (putF "forms" (.ref fm) [])))) = H3 at x3 h3 b3 ⊢
    refine ⟨Nat.zero_le _, fun pt np => ?_⟩
    have ppt : p ≠ pt := ne_of_none h3 np
    obtain ⟨ob, ho, _⟩ := b3.ob
    have bpt : bx ≠ pt := ne_of_none ho np
    have np0 : H pt = none := x1.f _ (x2.f _ (x3.f _ np))
    refine ⟨.ref p, rfl, p, CT, dx, _, rfl, by rw [upd_ne ppt]; exact h3, T.cl, T.n3, by omega, ?_⟩
    have l4 := lenF "parts" (.ref pt) l3
    have x4 : Ex [p] H3 (upd (upd H3 pt (.lst [])) p (.ins CT dx (putF "parts" (.ref pt) (putF "wanted" (.int 0) (putF "boxes" (.ref bx) (putF "forms" (.ref fm) [])))))) := (Ex.new np).trans (put (by rw [upd_ne ppt]; exact h3))
    have T4 : TrI CT (upd (upd H3 pt (.lst [])) p (.ins CT dx (putF "parts" (.ref pt) (putF "wanted" (.int 0) (putF "boxes" (.ref bx) (putF "forms" (.ref fm) [])))))) p fm bx pt 0 := by
      refine ⟨dx, _, upd_same, ?_, ?_, ?_, ?_, ?_, ?_, ?_, ?_, by omega⟩ <;> simp only [lookup_putF]
      · rw [if_neg (by decide +kernel), if_neg (by decide +kernel), if_neg (by decide +kernel), if_pos trivial]
      · rw [if_neg (by decide +kernel), if_neg (by decide +kernel), if_pos trivial]
      · rw [if_neg (by decide +kernel), if_pos trivial]; rfl
      · rw [if_pos trivial]
      · rw [if_neg (by decide +kernel), if_neg (by decide +kernel), if_neg (by decide +kernel), if_neg (by decide +kernel)]; rfl
      · rw [if_neg (by decide +kernel), if_neg (by decide +kernel), if_neg (by decide +kernel), if_neg (by decide +kernel)]; rfl
      · rw [if_neg (by decide +kernel), if_neg (by decide +kernel), if_neg (by decide +kernel), if_neg (by decide +kernel)]; rfl
      · rw [if_neg (by decide +kernel), if_neg (by decide +kernel), if_neg (by decide +kernel), if_neg (by decide +kernel)]; rfl
    have b4 := (b3.ex (Ex.new np (o := .lst []) (xs := [])) (by simp)).ex (put (fs' := putF "parts" (.ref pt) (putF "wanted" (.int 0) (putF "boxes" (.ref bx) (putF "forms" (.ref fm) [])))) (by rw [upd_ne ppt]; exact h3)) (by simpa using pb.symm)
    have h4 : (upd (upd H3 pt (.lst [])) p (.ins CT dx (putF "parts" (.ref pt) (putF "wanted" (.int 0) (putF "boxes" (.ref bx) (putF "forms" (.ref fm) [])))))) pt = some (.lst []) := by rw [upd_ne ppt.symm, upd_same]
    have x04 : Ex [p] H (upd (upd H3 pt (.lst [])) p (.ins CT dx (putF "parts" (.ref pt) (putF "wanted" (.int 0) (putF "boxes" (.ref bx) (putF "forms" (.ref fm) [])))))) := ((x1.trans x2).trans x3).trans x4
    generalize upd (upd H3 pt (.lst [])) p (.ins CT dx (putF "parts" (.ref pt) (putF "wanted" (.int 0) (putF "boxes" (.ref bx) (putF "forms" (.ref fm) []))))) = H4 at x4 T4 b4 h4 x04 ⊢
    clear x1 x2 x3 x4 h1 h2 h3 b2 b3 ho l1 l2 l3 l4
    have F4 : FmH CM H4 fm mk kn kp ms := hF.ex x04 (by simpa using npf.symm) (by simpa using npk.1.symm) (by simpa using npk.2.1.symm) (by simpa using npk.2.2.symm)
    have nbk : bx ≠ kn := fun z => by rw [z, hm3] at nb0; cases nb0
    have nbm : bx ≠ mk := fun z => by rw [z, hm2] at nb0; cases nb0
    have nbp : bx ≠ kp := fun z => by rw [z, hm4] at nb0; cases nb0
    have nbf : bx ≠ fm := fun z => by rw [z, hm1] at nb0; cases nb0
    have ptk : pt ≠ kn := fun z => by rw [z, hm3] at np0; cases np0
    have ptm : pt ≠ mk := fun z => by rw [z, hm2] at np0; cases np0
    have ptp : pt ≠ kp := fun z => by rw [z, hm4] at np0; cases np0
    have ptf : pt ≠ fm := fun z => by rw [z, hm1] at np0; cases np0
    obtain ⟨kne1, kne2, kne3, kne4, kne5, kne6⟩ := hF.ne
    have lws : xs.length = ws.length := hws.len
    have st0 : TsOk ms.length 0 ⟨ms, [], 0, []⟩ := ⟨hm0, Nat.le_refl _, Nat.le_refl _, Nat.le_refl _, by simp⟩
    have onto : ∀ {H2 : Hp}, Ex [p, bx, pt, mk, kn, kp] H4 H2 → Ex [p, mk, kn, kp] H H2 := fun x => ex_onto (fun z hz => by
      simp only [List.mem_cons, List.not_mem_nil, or_false] at hz
      rcases hz with rfl | rfl | rfl | rfl | rfl | rfl
      · exact .inl (by simp)
      · exact .inr nb0
      · exact .inr np0
      · exact .inl (by simp)
      · exact .inl (by simp)
      · exact .inl (by simp)) (x04.mono (by simp)) x
    rcases hr0 with hr1 | ⟨hr1, hr2, hr3⟩
    · skip
      refine .inr ⟨.ref r, rfl, r, rfl, ⟨_, x04.seqT hr1⟩, ?_⟩
      refine for_it (walk_tup (K := K) (a := r) (xs := xs)) (fun i σ H2 => ∃ (y3 y4 y5 : Option V) (t : Ts) (pvs : List V), σ = [some (.ref p), some (.ref r), some (.ref fm), y3, y4, y5, none] ∧ t = runT ⟨ms, [], 0, []⟩ (ws.take i) ∧ TrI CT H2 p fm bx pt t.wt ∧ FmH CM H2 fm mk kn kp t.ms ∧ BdH H2 bx tk t.dv ∧ H2 pt = some (.lst pvs) ∧ P2 (PartH K H2) pvs t.ps ∧ pvs.length = i ∧ Ex [p, bx, pt, mk, kn, kp] H4 H2) ?_ ?_ ?_ ?_
      · exact ⟨_, _, _, _, [], rfl, rfl, T4, F4, b4, h4, .nil, rfl, .refl⟩
      · rintro i σ H2 _ ⟨y3, y4, y5, t, pvs, _, _, _, _, _, _, _, _, x2⟩
        exact x2.seqT (x04.seqT hr1)
      · rintro i v σ H0 H2 hi ⟨y3, y4, y5, t, pvs, rfl, et, hT, hFF, hB, hP, hPP, lpv, x2⟩ ⟨rfl, hx⟩
        obtain ⟨W, hW1, hW2⟩ := hws.getL hx
        have kw := hkd W (List.mem_of_getElem? hW1)
        have hW : WoH K H2 v W := hW2.ex (onto x2)
        have hi2 : i < ws.length := by rw [← lws]; exact hi
        have tok : TsOk ms.length (ws.take i).length t := by rw [et]; exact runT_ok st0 _
        rw [List.length_take, Nat.min_eq_left (Nat.le_of_lt hi2)] at tok
        obtain ⟨k1, k2, k3, k4, k5⟩ := tok
        obtain ⟨⟨dm2, gs2, c1, c2, c3, c4, c5, _⟩, _⟩ := id hFF
        refine ⟨p, fm, bx, pt, .ref r, t.wt, v, _, _, W, tk, t.dv, CM, dm2, gs2, rfl, hT, c1, TMk.cl, TMk.n3, c5, hB, kw, hW, fun H3 a x3 ha => ?_⟩
        have hT3 := hT.ex x3 (by simp)
        obtain ⟨dx3, fs3, d1, d2, d3, d4, d5, d6, _⟩ := id hT3
        refine ⟨.ref p, rfl, p, dx3, fs3, rfl, d1, d6, v, rfl, .ref a, rfl, p, fm, bx, pt, mk, kn, kp, a, v, W, (askB W).map (gt t.dv), t.ms, t.wt, tk, t.dv, rfl, hT3, hFF.nil x3, npf, hB.ex x3 (by simp), kw, nbk, by omega, hW.ex x3, ha, List.length_map .., fun x hx => ?_, by omega, by omega, fun H5 x5 T5 F5 B5 => ?_⟩
        · obtain ⟨b, _, rfl⟩ := List.mem_map.mp hx
          exact gt_lt k1 k5 b
        obtain ⟨dx5, fs5, e1, e2, e3, e4, e5, _⟩ := id T5
        have hP5 : H5 pt = some (.lst pvs) := x5.lst (x3.lst hP) (by simp [ppt.symm, bpt.symm, ptm, ptk, ptp])
        refine ⟨.ref p, rfl, p, CT, dx5, fs5, .ref pt, rfl, e1, T.cl, T.n3, e5, .inl ⟨rfl, _, .of hP5⟩, v, rfl, .ref a, rfl, _, rfl, (by show 3 ≤ sizeLine; decide), fun U nU => ?_⟩
        have x6 : Ex [] H5 (upd H5 U (.tup [v, .ref a, optV (formB t.ms t.wt ((askB W).map (gt t.dv)) W).2.2])) := .new nU
        have hP6 := x6.lst hP5
        have g6 : (upd H5 U (.tup [v, .ref a, optV (formB t.ms t.wt ((askB W).map (gt t.dv)) W).2.2])) U = some (.tup [v, .ref a, optV (formB t.ms t.wt ((askB W).map (gt t.dv)) W).2.2]) := upd_same
        generalize upd H5 U (.tup [v, .ref a, optV (formB t.ms t.wt ((askB W).map (gt t.dv)) W).2.2]) = H6 at x6 hP6 g6 ⊢
        have x7 : Ex [pt] H6 (upd H6 pt (.lst (pvs ++ [.ref U]))) := .put hP6 nt_lst (by simp)
        refine ⟨pt, pvs, .ref U, rfl, rfl, hP6, by rw [lpv]; exact Nat.lt_of_lt_of_le (show i < 2000 by omega) (by decide), ?_⟩
        have x56 : Ex [p, bx, mk, kn, kp] H3 H6 := x5.trans x6.nil
        have x37 : Ex [p, bx, pt, mk, kn, kp] H3 (upd H6 pt (.lst (pvs ++ [.ref U]))) := (x56.mono (fun z hz => by
          simp only [List.mem_cons, List.not_mem_nil, or_false] at hz ⊢
          rcases hz with rfl | rfl | rfl | rfl | rfl <;> simp)).trans (x7.mono (by simp))
        have x27 := x3.nil.trans x37
        refine ⟨_, _, _, stepT t W, _, rfl, ?_, (T5.ex x6 (by simp)).ex x7 (by simpa using ppt), (F5.nil x6).ex x7 (by simpa using ptf.symm) (by simpa using ptm.symm) (by simpa using ptk.symm) (by simpa using ptp.symm), (B5.ex x6 (by simp)).ex x7 (by simpa using bpt), upd_same, ?_, ?_, x2.trans x27⟩
        · rw [List.take_add_one, hW1, et]; exact (runT_snoc _ _ _).symm
        · exact (hPP.imp fun _ _ h => h.ex x27).app (.cons ⟨U, v, a, rfl, x7.tup g6, hW.ex x27, x7.seqT (x56.seqT ha)⟩ .nil)
        · rw [List.length_append, lpv]; rfl
      · rintro σ H2 ⟨y3, y4, y5, t, pvs, rfl, et, hT, hFF, hB, hP, hPP, lpv, x2⟩
        rw [lws, List.take_length] at et
        subst et
        exact q H2 bx pt pvs (onto x2) hT hFF hB hP hPP nb0 np0
    · have hr4 : r ≠ kn := ne_of hr1 hm3 (by intro z; cases z)
      have hr5 : r ≠ p := ne_of hr1 hp (by intro z; cases z)
      have rbx : r ≠ bx := fun z => by rw [z, nb0] at hr1; cases hr1
      have rpt : r ≠ pt := fun z => by rw [z, np0] at hr1; cases hr1
      refine .inl ⟨.ref r, rfl, r, rfl, ⟨_, SqL.of (x04.lst hr1 (by simpa using hr5))⟩, ?_⟩
      refine for_it (walk_list (K := K) (a := r) (xs := xs)) (fun i σ H2 => ∃ (y3 y4 y5 : Option V) (t : Ts) (pvs : List V), σ = [some (.ref p), some (.ref r), some (.ref fm), y3, y4, y5, none] ∧ t = runT ⟨ms, [], 0, []⟩ (ws.take i) ∧ TrI CT H2 p fm bx pt t.wt ∧ FmH CM H2 fm mk kn kp t.ms ∧ BdH H2 bx tk t.dv ∧ H2 pt = some (.lst pvs) ∧ P2 (PartH K H2) pvs t.ps ∧ pvs.length = i ∧ Ex [p, bx, pt, mk, kn, kp] H4 H2) ?_ ?_ ?_ ?_
      · exact ⟨_, _, _, _, [], rfl, rfl, T4, F4, b4, h4, .nil, rfl, .refl⟩
      · rintro i σ H2 _ ⟨y3, y4, y5, t, pvs, _, _, _, _, _, _, _, _, x2⟩
        exact SqL.of (x2.lst (x04.lst hr1 (by simpa using hr5)) (by simp [hr5, hr2, hr3, hr4, rbx, rpt]))
      · rintro i v σ H0 H2 hi ⟨y3, y4, y5, t, pvs, rfl, et, hT, hFF, hB, hP, hPP, lpv, x2⟩ ⟨rfl, hx⟩
        obtain ⟨W, hW1, hW2⟩ := hws.getL hx
        have kw := hkd W (List.mem_of_getElem? hW1)
        have hW : WoH K H2 v W := hW2.ex (onto x2)
        have hi2 : i < ws.length := by rw [← lws]; exact hi
        have tok : TsOk ms.length (ws.take i).length t := by rw [et]; exact runT_ok st0 _
        rw [List.length_take, Nat.min_eq_left (Nat.le_of_lt hi2)] at tok
        obtain ⟨k1, k2, k3, k4, k5⟩ := tok
        obtain ⟨⟨dm2, gs2, c1, c2, c3, c4, c5, _⟩, _⟩ := id hFF
        refine ⟨p, fm, bx, pt, .ref r, t.wt, v, _, _, W, tk, t.dv, CM, dm2, gs2, rfl, hT, c1, TMk.cl, TMk.n3, c5, hB, kw, hW, fun H3 a x3 ha => ?_⟩
        have hT3 := hT.ex x3 (by simp)
        obtain ⟨dx3, fs3, d1, d2, d3, d4, d5, d6, _⟩ := id hT3
        refine ⟨.ref p, rfl, p, dx3, fs3, rfl, d1, d6, v, rfl, .ref a, rfl, p, fm, bx, pt, mk, kn, kp, a, v, W, (askB W).map (gt t.dv), t.ms, t.wt, tk, t.dv, rfl, hT3, hFF.nil x3, npf, hB.ex x3 (by simp), kw, nbk, by omega, hW.ex x3, ha, List.length_map .., fun x hx => ?_, by omega, by omega, fun H5 x5 T5 F5 B5 => ?_⟩
        · obtain ⟨b, _, rfl⟩ := List.mem_map.mp hx
          exact gt_lt k1 k5 b
        obtain ⟨dx5, fs5, e1, e2, e3, e4, e5, _⟩ := id T5
        have hP5 : H5 pt = some (.lst pvs) := x5.lst (x3.lst hP) (by simp [ppt.symm, bpt.symm, ptm, ptk, ptp])
        refine ⟨.ref p, rfl, p, CT, dx5, fs5, .ref pt, rfl, e1, T.cl, T.n3, e5, .inl ⟨rfl, _, .of hP5⟩, v, rfl, .ref a, rfl, _, rfl, (by show 3 ≤ sizeLine; decide), fun U nU => ?_⟩
        have x6 : Ex [] H5 (upd H5 U (.tup [v, .ref a, optV (formB t.ms t.wt ((askB W).map (gt t.dv)) W).2.2])) := .new nU
        have hP6 := x6.lst hP5
        have g6 : (upd H5 U (.tup [v, .ref a, optV (formB t.ms t.wt ((askB W).map (gt t.dv)) W).2.2])) U = some (.tup [v, .ref a, optV (formB t.ms t.wt ((askB W).map (gt t.dv)) W).2.2]) := upd_same
        generalize upd H5 U (.tup [v, .ref a, optV (formB t.ms t.wt ((askB W).map (gt t.dv)) W).2.2]) = H6 at x6 hP6 g6 ⊢
        have x7 : Ex [pt] H6 (upd H6 pt (.lst (pvs ++ [.ref U]))) := .put hP6 nt_lst (by simp)
        refine ⟨pt, pvs, .ref U, rfl, rfl, hP6, by rw [lpv]; exact Nat.lt_of_lt_of_le (show i < 2000 by omega) (by decide), ?_⟩
        have x56 : Ex [p, bx, mk, kn, kp] H3 H6 := x5.trans x6.nil
        have x37 : Ex [p, bx, pt, mk, kn, kp] H3 (upd H6 pt (.lst (pvs ++ [.ref U]))) := (x56.mono (fun z hz => by
          simp only [List.mem_cons, List.not_mem_nil, or_false] at hz ⊢
          rcases hz with rfl | rfl | rfl | rfl | rfl <;> simp)).trans (x7.mono (by simp))
        have x27 := x3.nil.trans x37
        refine ⟨_, _, _, stepT t W, _, rfl, ?_, (T5.ex x6 (by simp)).ex x7 (by simpa using ppt), (F5.nil x6).ex x7 (by simpa using ptf.symm) (by simpa using ptm.symm) (by simpa using ptk.symm) (by simpa using ptp.symm), (B5.ex x6 (by simp)).ex x7 (by simpa using bpt), upd_same, ?_, ?_, x2.trans x27⟩
        · rw [List.take_add_one, hW1, et]; exact (runT_snoc _ _ _).symm
        · exact (hPP.imp fun _ _ h => h.ex x27).app (.cons ⟨U, v, a, rfl, x7.tup g6, hW.ex x27, x7.seqT (x56.seqT ha)⟩ .nil)
        · rw [List.length_append, lpv]; rfl
      · rintro σ H2 ⟨y3, y4, y5, t, pvs, rfl, et, hT, hFF, hB, hP, hPP, lpv, x2⟩
        rw [lws, List.take_length] at et
        subst et
        exact q H2 bx pt pvs (onto x2) hT hFF hB hP hPP nb0 np0
end
end K48

namespace Kk
open PySem PySem.Spec PyProof.Rows L2
/-! d.values() of a locked dict with tuple keys -/
section
variable {X : Cx} {pins : List (Addr × Obj)} {σ : L2.St} {H : Hp} {s : Shared} {d : Addr} {o : Obj}
theorem frzTv {kvs : List (List L2.Key × V)} (I : Inv X pins σ H s) (h : H d = some (.frz o (.dT kvs))) :
    (d == sysModules) = false ∧ s.heap.get? d = some o ∧ o.ExactDict ∧ ∃ (es : Array DictEntry) (ep : Nat), o.data = .dict es ep ∧ es.size = kvs.length ∧
      ∀ (i : Nat) (k : List L2.Key) (v : V), kvs[i]? = some (k, v) → ∃ (en : DictEntry), es[i]? = some en ∧ RelV v en.val := by
  obtain ⟨hd, z, hs, xs, pr, o', es, ep, ho, hx, hdt, he, _⟩ := I.hok d _ h
  rw [hd] at ho
  cases ho
  refine ⟨hs, hd, hx, es, ep, hdt, ?_, fun i k v e => ?_⟩
  · have l1 : es.size = xs.length := size_of_entries he
    have l2 : kvs.length = xs.length := Paired.length pr
    omega
  · obtain ⟨b, hb, e1, e2, e3⟩ := paired_get pr e
    have q := entry_at he i
    rw [hb] at q
    exact ⟨_, q, e3⟩
end
def ItdT (d : Addr) (o : Obj) (kvs : List (List L2.Key × V)) : It :=
  ⟨fun i H => H d = some (.frz o (.dT kvs)) ∧ i < kvs.length, fun i H x H' => H' = H ∧ ∃ k, kvs[i]? = some (k, x), fun i H => H d = some (.frz o (.dT kvs)) ∧ kvs.length ≤ i⟩
theorem turn_valsT {P : Program} {w : World} {K : PySem.W.Frag} {tg : Expr} {d : Addr} {o : Obj} {es : Array DictEntry} {ep : Nat} {kvs : List (List L2.Key × V)} (it : Addr) (hod : o.data = .dict es ep) : Turn P w K tg (ItdT d o kvs) [it] it (fun i h => h.IsValIter it d i kvs.length ep) where
  mem := by simp
  obj := fun i h st b hb => by
    have e : b = it := by simpa using hb
    subst e
    obtain ⟨oi, e, c, dd⟩ := st
    exact ⟨oi, e, fun v z => by rw [dd] at z; cases z⟩
  keep := fun i h h' st k => st.at fun oi e => k it (by simp) oi e
  item := by
    intro X hP hw hK hc i pins s σ H E I hf st hg
    subst hP hw hK
    obtain ⟨hd, hi⟩ := hg
    obtain ⟨f0, f1, f2, f3, f4, f5⟩ := hf it (by simp)
    obtain ⟨hs, hgd, hx, es', ep', hdt, hsz, ent⟩ := frzTv I hd
    obtain ⟨rfl, rfl⟩ := dict_ep hod hdt
    obtain ⟨⟨k, v⟩, hkv⟩ : ∃ p, kvs[i]? = some p := ⟨kvs[i], List.getElem?_eq_getElem hi⟩
    obtain ⟨en, hen, rv⟩ := ent i k v hkv
    rw [← hsz] at st
    have hm : s.heap.DictRaw d es' ep' := ⟨o, hgd, hx, hdt⟩
    have hi' : i < es'.size := by omega
    have hval : es'[i].val = en.val := by
      rw [Array.getElem?_eq_getElem hi'] at hen
      rw [Option.some.inj hen]
    refine wpAny_pyNext_values_item_raw st hm hi' fun h' st' sb => ?_
    have I1 : Inv X pins σ H { s with heap := h' } := I.turned (t' := s.toks) (fun b ob hb e => (sb.2 b hb).trans e) f0 f1 f3 f4 f5
    obtain ⟨oi, e, c, dd⟩ := id st'
    refine ⟨_, rfl, go_of (s := { s with heap := h' }) e c dd (by decide) ⟨v, H, I1, by rw [hval]; exact rv, ⟨rfl, k, hkv⟩, ?_, fun b hb => (hf b hb).1⟩⟩
    show h'.IsValIter it d (i + 1) kvs.length _
    rw [← hsz]
    exact st'
  done := by
    intro X hP hw hK hc i pins s σ H E I hf st hg
    subst hP hw hK
    obtain ⟨hd, hi⟩ := hg
    obtain ⟨f0, f1, f2, f3, f4, f5⟩ := hf it (by simp)
    obtain ⟨hs, hgd, hx, es', ep', hdt, hsz, ent⟩ := frzTv I hd
    obtain ⟨rfl, rfl⟩ := dict_ep hod hdt
    rw [← hsz] at st
    exact wpAny_pyNext_values_end_raw (I.ok.hd hc) st ⟨o, hgd, hx, hdt⟩ (by omega) fun h' eb => ⟨rfl, I.turned (t' := s.toks) (fun b ob hb e => eb b ob hb e) f0 f1 f3 f4 f5⟩
  self := fun A i s Q E st h => wpAny_pyIter_valiter st h
def iValsT (td : TE) : TI := fun σ H R => td σ H fun x H1 => ∃ d o kvs, x = .ref d ∧ H1 d = some (.frz o (.dT kvs)) ∧ R (ItdT d o kvs) H1
theorem pi_valuesT {X : Cx} {tg e : Expr} {td : TE} {apos cpos : Pos} (he : PE X e td) (hbase : attributeBase e "values" X.env (eval e X.env) = eval e X.env := by rfl) (hline : (apos.endLine == cpos.line) = true := by rfl) : PI X tg (.Call (.Attribute e "values" apos) [] [] cpos) (iValsT td) := by
  refine ⟨fun pins s σ H R I h => ?_⟩
  refine wpAny_Call_method (T := "dict") (id := "dict.values") hbase rfl hline F.plainAttrs_dict F.slot_dict_values F.type_dict_values (thn (he.run pins s σ H _ I h) fun u s1 ⟨x, H1, I1, rx, d, o, kvs, ex, hd, q⟩ => ?_)
  subst ex
  obtain rfl : u = Value.ref d := rx
  obtain ⟨hs, hgd, hx, es, ep, hdt, hsz, ent⟩ := frzTv I1 hd
  have hm : s1.heap.DictRaw d es ep := ⟨o, hgd, hx, hdt⟩
  refine ⟨hm.typeIs, fun b q => ?_, ?_⟩
  · cases q
    exact ⟨o, hgd, hx.2.1⟩
  have I2 : Inv X pins σ H1 { s1 with heap := s1.heap.push { cls := .type "dict_values", data := .fields #[.ref d] } } := I1.kept (t' := s1.toks) fun b ob q => Heap.get?_push_of_some _ q
  have fin : wpAny (model X.prog X.w) X.A (pyIter (.ref s1.heap.objs.size)) (PIE X pins σ tg R) X.xe { s1 with heap := s1.heap.push { cls := .type "dict_values", data := .fields #[.ref d] } } := by
    refine wpAny_pyIter_values_raw (d := d) ⟨_, Heap.get?_push_size _ rfl, rfl, rfl⟩ (hm.at fun ob q => Heap.get?_push_of_some _ q) (pi_one (tk := s1.toks) I2 _ (turn_valsT _ hdt) ⟨_, Heap.get?_push_size _ rfl, rfl, ?_⟩ q)
    rw [hsz] <;> rfl
  show wpAny _ _ (callWith cpos (.builtin "dict.values") [.ref d] [] []) _ X.xe s1
  exact method_meetsIn F.slot_dict_values F.entry_dict_values rfl (PySem.evalArgs_none ⟨rfl, hm.typeIs, F.args_dict_values_1 _, _, meets_dict_values_raw d hs, ⟨es, ep, hm⟩, fin⟩)
theorem walk_valuesT {d : Addr} {o : Obj} {kvs : List (List L2.Key × V)} : Walk (ItdT d o kvs) kvs.length (fun H => H d = some (.frz o (.dT kvs))) (fun i H x H' => H' = H ∧ ∃ k, kvs[i]? = some (k, x)) :=
  ⟨fun i H hi q => ⟨q, hi⟩, fun H q => ⟨q, Nat.le_refl _⟩, fun i H x H' _ q y => y⟩
end Kk

namespace Kk
open PySem PySem.Spec PyProof.Rows L2
/-! a dict, locked while it is walked -/
theorem Ex.lock {H H' : Hp} {d : Addr} {u : HO} {od : Obj} (h : H d = some u) (nt : NoTb u) (fx : Fx u = false) (x : Ex [] (upd H d (.frz od u)) H') (hd : H' d = some (.frz od u)) : Ex [] H (upd H' d u) := by
  refine ⟨fun b o _ hb hn => ?_, fun b o hb ho => ?_, fun P ht => ?_, fun b hb => ?_⟩
  · by_cases e : b = d
    · subst e
      rw [h] at hb
      cases hb
      exact upd_same
    · rw [upd_ne e]
      exact x.a b o (by simp) (by rw [upd_ne e]; exact hb) hn
  · have e : b ≠ d := fun z => by
      rw [z, h] at hb
      cases hb
      rw [fx] at ho; cases ho
    rw [upd_ne e]
    exact x.c b o (by rw [upd_ne e]; exact hb) ho
  · have h1 : GxR.TabG (upd H d (.frz od u)) P := tab_upd ht fun ps z => by
      rw [h] at z
      cases z
      exact nt _ rfl
    exact tab_upd (x.t P h1) fun ps z => by rw [hd] at z; cases z
  · have hb2 : H' b = none := upd_free hb
    have := x.f b hb2
    exact upd_free this
mutual
theorem Tp.keep {K : PySem.W.Frag} {H H' : Hp} (k1 : ∀ b xs, H b = some (.tup xs) → H' b = some (.tup xs)) (k2 : ∀ b o xs, H b = some (.frz o (.tup xs)) → H' b = some (.frz o (.tup xs))) : ∀ {v : V} {d : PyData}, Tp K H v d → Tp K H' v d
  | _, _, .non => .non
  | _, _, .bl b => .bl b
  | _, _, .int i => .int i
  | _, _, .str x => .str x
  | _, _, .tup h r => .tup (by
      rcases h with (h | ⟨o, h⟩) | h
      · exact .inl (.inl (k1 _ _ h))
      · exact .inl (.inr ⟨o, k2 _ _ _ h⟩)
      · exact .inr h) (TpAll.keep k1 k2 r)
theorem TpAll.keep {K : PySem.W.Frag} {H H' : Hp} (k1 : ∀ b xs, H b = some (.tup xs) → H' b = some (.tup xs)) (k2 : ∀ b o xs, H b = some (.frz o (.tup xs)) → H' b = some (.frz o (.tup xs))) : ∀ {vs : List V} {ds : List PyData}, TpAll K H vs ds → TpAll K H' vs ds
  | _, _, .nil => .nil
  | _, _, .cons h r => .cons (Tp.keep k1 k2 h) (TpAll.keep k1 k2 r)
end
theorem TpAll.unlock {K : PySem.W.Frag} {H : Hp} {d : Addr} {od : Obj} {kvs : List (Key × V)} (hd : H d = some (.frz od (.dK kvs))) {vs : List V} {ds : List PyData} (h : TpAll K H vs ds) : TpAll K (upd H d (.dK kvs)) vs ds :=
  h.keep (fun b xs e => by rw [upd_ne fun z => by rw [z, hd] at e; cases e]; exact e) (fun b o xs e => by rw [upd_ne fun z => by rw [z, hd] at e; cases e]; exact e)
theorem TpAll.lock {K : PySem.W.Frag} {H : Hp} {d : Addr} {od : Obj} {kvs : List (Key × V)} (hd : H d = some (.dK kvs)) {vs : List V} {ds : List PyData} (h : TpAll K H vs ds) : TpAll K (upd H d (.frz od (.dK kvs))) vs ds :=
  h.keep (fun b xs e => by rw [upd_ne fun z => by rw [z, hd] at e; cases e]; exact e) (fun b o xs e => by rw [upd_ne fun z => by rw [z, hd] at e; cases e]; exact e)
end Kk

set_option maxHeartbeats 4000000
namespace Kk
open PySem PySem.Spec PyProof.Rows L2
/-! what stays when a lock is taken off -/
theorem un_ne {H : Hp} {d b : Addr} {od : Obj} {u o : HO} (hd : H d = some (.frz od u)) (e : H b = some o) (n : ∀ o' u', o ≠ .frz o' u') : (upd H d u) b = some o := by
  rw [upd_ne fun z => by rw [z, hd] at e; cases e; exact n _ _ rfl]; exact e
theorem un_tup {H : Hp} {d b : Addr} {od : Obj} {u : HO} {xs : List V} (hd : H d = some (.frz od u)) (e : H b = some (.tup xs)) : (upd H d u) b = some (.tup xs) := un_ne hd e fun _ _ z => by cases z
theorem un_lst {H : Hp} {d b : Addr} {od : Obj} {u : HO} {xs : List V} (hd : H d = some (.frz od u)) (e : H b = some (.lst xs)) : (upd H d u) b = some (.lst xs) := un_ne hd e fun _ _ z => by cases z
theorem un_frz {H : Hp} {d b : Addr} {od o : Obj} {u : HO} {xs : List V} (hd : H d = some (.frz od u)) (nu : ∀ xs, u ≠ .tup xs) (e : H b = some (.frz o (.tup xs))) : (upd H d u) b = some (.frz o (.tup xs)) := by
  rw [upd_ne fun z => by rw [z, hd] at e; cases e; exact nu _ rfl]; exact e
theorem un_tp {K : PySem.W.Frag} {H : Hp} {d : Addr} {od : Obj} {u : HO} (hd : H d = some (.frz od u)) (nu : ∀ xs, u ≠ .tup xs) {v : V} {x : PyData} (h : Tp K H v x) : Tp K (upd H d u) v x := h.keep (fun b xs e => un_tup hd e) (fun b o xs e => un_frz hd nu e)
theorem un_all {K : PySem.W.Frag} {H : Hp} {d : Addr} {od : Obj} {u : HO} (hd : H d = some (.frz od u)) (nu : ∀ xs, u ≠ .tup xs) {v : List V} {x : List PyData} (h : TpAll K H v x) : TpAll K (upd H d u) v x := h.keep (fun b xs e => un_tup hd e) (fun b o xs e => un_frz hd nu e)
theorem un_seqT {K : PySem.W.Frag} {H : Hp} {d b : Addr} {od : Obj} {u : HO} {xs : List V} (hd : H d = some (.frz od u)) (nu : ∀ xs, u ≠ .tup xs) (h : SqT K H b xs) : SqT K (upd H d u) b xs := by
  rcases h with (h | ⟨o, h⟩) | h
  · exact .inl (.inl (un_tup hd h))
  · exact .inl (.inr ⟨o, un_frz hd nu h⟩)
  · exact .inr h
/-- a lock is taken on: all tuples stay -/
theorem on_ex {H : Hp} {d : Addr} {od : Obj} {u : HO} (h : H d = some u) (nt : NoTb u) (fx : Fx u = false) : Ex [d] H (upd H d (.frz od u)) := .put h nt (by simp) fx
theorem upd_comm {H : Hp} {a b : Addr} {o u : HO} (n : a ≠ b) : upd (upd H a o) b u = upd (upd H b u) a o := by
  funext c
  by_cases e1 : c = a
  · subst e1
    rw [upd_ne n, upd_same, upd_same]
  · by_cases e2 : c = b
    · subst e2
      rw [upd_same, upd_ne e1, upd_same]
    · rw [upd_ne e2, upd_ne e1, upd_ne e1, upd_ne e2]
end Kk

set_option maxHeartbeats 4000000
namespace K48
open PySem PySem.Spec PyProof.Rows L2 Kk
abbrev s_outer : Stmt := inClass (topS 26) 3
abbrev s_keepsN : Stmt := inClass (topS 26) 4
abbrev n_outer : List Str := ["self", "takes_and_tells", "one", "word", "asked", "put"]
theorem sc_outer : FnScope n_outer ["self"] (defScope s_outer) := ⟨rfl, rfl, rfl, by decide +kernel, rfl, by decide +kernel, by decide +kernel⟩
theorem sc_keepsN : FnScope ["self"] ["self"] (defScope s_keepsN) := ⟨rfl, rfl, rfl, by decide +kernel, rfl, by decide +kernel, by decide +kernel⟩
/-! what the outer world sees, as data -/
def kdW : Wo → Str
  | .take _ _ => Str.ofString "take"
  | .ask _ => Str.ofString "ask"
  | .number _ _ => Str.ofString "number"
  | .copy _ _ => Str.ofString "copy"
  | .mix _ _ _ => Str.ofString "mix"
  | .opn _ _ => Str.ofString "open"
  | .tell _ => Str.ofString "tell"
  | .wipe _ => Str.ofString "wipe"
def isO : Wo → Bool
  | .take _ _ => true
  | .ask _ => true
  | .tell _ => true
  | _ => false
def restW : Wo → List PyData
  | .take _ s => [.str s]
  | _ => []
def outP (p : Wo × List Nat × Option Nat) : PyData := .tuple [.str (kdW p.1), .tuple (restW p.1), .tuple (p.2.1.map fun n : Nat => .int n)]
def outs (ps : List (Wo × List Nat × Option Nat)) : List (Wo × List Nat × Option Nat) := ps.filter fun p => isO p.1
theorem outs_snoc {ps : List (Wo × List Nat × Option Nat)} {p : Wo × List Nat × Option Nat} : outs (ps ++ [p]) = if isO p.1 = true then outs ps ++ [p] else outs ps := by
  unfold outs
  rw [List.filter_append]
  cases h : isO p.1 with
  | true => rw [if_pos rfl]; simp [h]
  | false => rw [if_neg Bool.false_ne_true]; simp [h]
def ttV : List V := [.str (Str.ofString "take"), .str (Str.ofString "ask"), .str (Str.ofString "tell")]
theorem WoX.kd {H : Hp} {W : Wo} {xs : List V} (h : WoX H W xs) : ∃ r, xs = .str (kdW W) :: r ∧ inV (.str (kdW W)) ttV = isO W := by
  cases W with
  | take b s => obtain ⟨v, h1, h2⟩ := h; exact ⟨_, h1, by show inV (V.str (Str.ofString "take")) ttV = true; decide +kernel⟩
  | ask b => obtain ⟨v, h1, h2⟩ := h; exact ⟨_, h1, by show inV (V.str (Str.ofString "ask")) ttV = true; decide +kernel⟩
  | number b n => obtain ⟨v, h1, h2⟩ := h; exact ⟨_, h1, by show inV (V.str (Str.ofString "number")) ttV = false; decide +kernel⟩
  | copy b c => obtain ⟨v, u, h1, h2, h3⟩ := h; exact ⟨_, h1, by show inV (V.str (Str.ofString "copy")) ttV = false; decide +kernel⟩
  | mix b c d => obtain ⟨v, u, z, h1, h2, h3, h4⟩ := h; exact ⟨_, h1, by show inV (V.str (Str.ofString "mix")) ttV = false; decide +kernel⟩
  | opn b c => obtain ⟨v, u, h1, h2, h3⟩ := h; exact ⟨_, h1, by show inV (V.str (Str.ofString "open")) ttV = false; decide +kernel⟩
  | tell b => obtain ⟨v, h1, h2⟩ := h; exact ⟨_, h1, by show inV (V.str (Str.ofString "tell")) ttV = true; decide +kernel⟩
  | wipe b => obtain ⟨v, h1, h2⟩ := h; exact ⟨_, h1, by show inV (V.str (Str.ofString "wipe")) ttV = false; decide +kernel⟩
theorem WoX.rest {K : PySem.W.Frag} {H H' : Hp} {W : Wo} {xs : List V} (h : WoX H W xs) (o : isO W = true) : TpAll K H' (xs.drop 2) (restW W) := by
  cases W with
  | take b s => obtain ⟨v, rfl, h2⟩ := h; exact .cons (.str _) .nil
  | ask b => obtain ⟨v, rfl, h2⟩ := h; exact .nil
  | tell b => obtain ⟨v, rfl, h2⟩ := h; exact .nil
  | number b n => cases o
  | copy b c => cases o
  | mix b c d => cases o
  | opn b c => cases o
  | wipe b => cases o
theorem ints_tp {K : PySem.W.Frag} {H : Hp} : ∀ as : List Nat, TpAll K H (as.map fun n : Nat => V.int n) (as.map fun n : Nat => PyData.int n)
  | [] => .nil
  | a :: r => .cons (.int _) (ints_tp r)
theorem nw46 {H : Hp} {p : Addr} {o : HO} (n : H p = none) : Ex [] H (upd H p o) ∧ (upd H p o) p = some o := ⟨.new n, upd_same⟩
theorem op_in_seqK {X : Cx} {K : PySem.W.Frag} (h : X.K = K) : OpR X (compareOp .In) (rIn K false) := by subst h; exact op_in_seq
theorem sl_tupKA {X : Cx} {K : PySem.W.Frag} (h : X.K = K) : SlR X (rSlA K) := by subst h; exact sl_tupA
section
variable {P : Program} {w : World} {K : PySem.W.Frag} {mg : Str → Option Value} {base : Heap}
def spOuter (K : PySem.W.Frag) (CT : Addr) : Sp := fun vs H Q _ => ∃ (tr fm bx pt : Addr) (wt : Nat) (pvs : List V) (ps : List (Wo × List Nat × Option Nat)), vs = [.ref tr] ∧ TrI CT H tr fm bx pt wt ∧ H pt = some (.lst pvs) ∧ P2 (PartH K H) pvs ps ∧ ps.length ≤ 3000 ∧
  ∀ H' l us, Ex [] H H' → H l = none → H' l = some (.lst us) → TpAll K H' us ((outs ps).map outP) → Q (.ref l) H'
theorem ok_outer {f CT : Addr} {fd : FuncData} {k : Nat} (F : Fun K "outer" "Trace.outer" s_outer f fd) (T : TT K mg CT) : FnOk P w K mg base CX0 (k + 1) f fd ["self"] (spOuter K CT) := by
  refine F.ok sc_outer (fun vs H Q E h => ?_) (fun cdv A outer s H vs Q E hr h => ?_)
  · obtain ⟨tr, fm, bx, pt, wt, pvs, ps, rfl, _⟩ := h; rfl
  · obtain ⟨tr, fm, bx, pt, wt, pvs, ps, rfl, hT, hP, hPP, hl, q⟩ := h
    refine ⟨_, (pss_cons (ps_setLc (i := 1) (own := [("one", 2)]) (g := gName 2) rfl sc_outer.nd rfl rfl (sw_true rfl rfl rfl (by decide +kernel)) (pi_list (pe_fld (pv 0) rfl)) (blkOk_by (N := n_outer) (sc := defScope s_outer) (by decide +kernel)) (fun _ _ _ _ _ => pg_name (i := 2) sc_outer.nd rfl (Or.inl rfl)) (fun _ _ _ _ _ => pts_one (pt_cmpR (op_in_seqK (K := K) rfl) (pe_ix (ix_tupK (K := K) rfl) (pe_ix (ix_tupK (K := K) rfl) (pv 2) pe_int (fun _ _ => rfl)) pe_int (fun _ _ => rfl)) (pe_tup (pa_cons pe_str (pa_cons pe_str (pa_cons pe_str pa_nil)))) rfl)) (fun _ _ _ _ _ => (pv 2)))
      (pss_one (ps_ret (pe_lc (own := [("word", 3), ("asked", 4), ("put", 5)]) (g := gTup K 3 (gCons (gName 3) (gCons (gName 4) (gCons (gName 5) gNil)))) (tt := tYes) rfl sc_outer.nd (pi_list (pv 1)) (blkOk_by (N := n_outer) (sc := defScope s_outer) (by decide +kernel)) (fun _ _ _ _ _ => pg_tupK (K := K) rfl rfl (pgs_cons (pg_name (i := 3) sc_outer.nd rfl (Or.inl rfl)) (pgs_cons (pg_name (i := 4) sc_outer.nd rfl (Or.inl rfl)) (pgs_cons (pg_name (i := 5) sc_outer.nd rfl (Or.inl rfl)) pgs_nil)))) (fun _ _ _ _ _ => pts_nil) (fun _ _ _ _ _ => (pe_tup (pa_cons (pe_ix (ix_tupK (K := K) rfl) (pv 3) pe_int (fun _ _ => rfl)) (pa_cons (pe_slice (sl_tupKA (K := K) rfl) (pv 3) (po_some pe_int) po_none) (pa_cons (pv 4) pa_nil))))))))), ?_⟩
    obtain ⟨dx, fs, t1, t2, t3, t4, t5, _⟩ := id hT
    have lp := hPP.len
    refine ⟨.ref tr, rfl, tr, CT, dx, fs, .ref pt, rfl, t1, T.cl, T.n3, t5, pt, rfl, ⟨_, .of hP⟩, fun D nD => ?_⟩
    obtain ⟨yD, hD⟩ := nw46 (o := .lst []) nD
    have pD : pt ≠ D := ne_of_none hP nD
    refine lc_it (walk_list (K := K) (a := pt) (xs := pvs)) (fun i H2 => ∃ acc, H2 D = some (.lst acc) ∧ P2 (PartH K H2) acc (outs (ps.take i)) ∧ acc.length ≤ i ∧ Ex [D] (upd H D (.lst [])) H2) ⟨[], hD, .nil, Nat.le_refl _, .refl⟩ ?_ ?_ ?_
    · rintro i H2 _ ⟨acc, _, _, _, x2⟩
      exact .of (x2.lst (yD.lst hP) (by simpa using pD))
    · rintro i v H0 H2 hi ⟨acc, h2, p2, la, x2⟩ ⟨rfl, hx⟩
      obtain ⟨p, hp1, hp2⟩ := hPP.getL hx
      have hp2 := (hp2.ex yD).ex x2
      obtain ⟨t, wv, a, rfl, ht, ⟨wa, wxs, rfl, hws, hwx⟩, ha⟩ := id hp2
      obtain ⟨r, rfl, hk⟩ := hwx.kd
      have eo : outs (ps.take (i + 1)) = if isO p.1 = true then outs (ps.take i) ++ [p] else outs (ps.take i) := by
        rw [List.take_add_one, hp1]; exact outs_snoc
      refine ⟨rfl, ?_⟩
      refine ⟨.ref t, rfl, t, _, 0, _, rfl, rfl, .of ht, at0, wa, _, 0, _, rfl, rfl, hws, at0, (by show 3 ≤ sizeLine; decide), fun U nU => ?_⟩
      obtain ⟨yU, hU⟩ := nw46 (o := .tup ttV) nU
      refine ⟨U, _, rfl, .inr (.of hU), rfl, rfl, _, rfl, ?_⟩
      have hk' : (if false = true then !inV (V.str (kdW p.1)) ttV else inV (V.str (kdW p.1)) ttV) = isO p.1 := hk
      rw [hk']
      cases ho : isO p.1 with
      | false =>
        rw [ho, if_neg Bool.false_ne_true] at eo
        refine iteF ⟨acc, yU.lst h2, ?_, by omega, x2.trans yU.nil⟩
        rw [eo]; exact p2.imp fun _ _ h => h.ex yU
      | true =>
        rw [ho, if_pos rfl] at eo
        refine iteT ⟨.ref t, rfl, acc, yU.lst h2, ?_, acc ++ [.ref t], upd_same, ?_, ?_, ?_⟩
        · have : i < pvs.length := hi
          exact Nat.lt_of_lt_of_le (show acc.length < 3001 by omega) (by decide)
        · rw [eo]
          have xp : Ex [D] (upd H2 U (.tup ttV)) (upd (upd H2 U (.tup ttV)) D (.lst (acc ++ [.ref t]))) := .put (yU.lst h2) nt_lst (by simp)
          exact ((p2.imp fun _ _ h => h.ex yU).app (.cons (hp2.ex yU) .nil)).imp fun _ _ h => h.ex xp
        · rw [List.length_append, List.length_singleton]; omega
        · exact (x2.trans yU.nil).trans (.put (yU.lst h2) nt_lst (by simp))
    rintro H2 ⟨acc, h2, p2, la, x2⟩
    rw [lp, List.take_length] at p2
    have x02 : Ex [] H H2 := Ex.own nD yD x2
    have lo := p2.len
    clear x2 yD hD
    refine ⟨.ref D, rfl, D, rfl, ⟨_, .of h2⟩, fun L nL => ?_⟩
    obtain ⟨yL, hL⟩ := nw46 (o := .lst []) nL
    have DL : D ≠ L := ne_of_none h2 nL
    refine lc_it (walk_list (K := K) (a := D) (xs := acc)) (fun i H3 => ∃ us, H3 L = some (.lst us) ∧ TpAll K H3 us (((outs ps).take i).map outP) ∧ us.length = i ∧ Ex [L] (upd H2 L (.lst [])) H3) ⟨[], hL, .nil, rfl, .refl⟩ ?_ ?_ ?_
    · rintro i H3 _ ⟨us, _, _, _, x3⟩
      exact .of (x3.lst (yL.lst h2) (by simpa using DL))
    · rintro i v H0 H3 hi ⟨us, h3, p3, la3, x3⟩ ⟨rfl, hx⟩
      obtain ⟨p, hp1, hp2⟩ := p2.getL hx
      obtain ⟨t, wv, a, rfl, ht, ⟨wa, wxs, rfl, hws, hwx⟩, ha⟩ := (hp2.ex yL).ex x3
      have hop : isO p.1 = true := (List.mem_filter.mp (List.mem_of_getElem? hp1)).2
      have hpos := hwx.pos
      obtain ⟨r, e1, _⟩ := hwx.kd
      have ix0 : atI wxs 0 = some (.str (kdW p.1)) := by rw [e1]; exact at0
      refine ⟨t, _, rfl, .of ht, rfl, _, _, rfl, _, _, rfl, _, _, rfl, rfl, rfl, tyes_if ?_⟩
      refine ⟨_, rfl, wa, _, 0, _, rfl, rfl, hws, ix0, _, rfl, 2, rfl, wa, _, rfl, hws, fun z => absurd z (cutNo 2 (by decide) (by omega)), fun _ B nB => ?_⟩
      rw [show cutV wxs (some 2) none = wxs.drop 2 from cutN 2]
      obtain ⟨yB, hB⟩ := nw46 (o := .tup (wxs.drop 2)) nB
      refine ⟨_, rfl, (by show 3 ≤ sizeLine; decide), fun U nU => ?_⟩
      obtain ⟨yU, hU⟩ := nw46 (o := .tup [.str (kdW p.1), .ref B, .ref a]) nU
      have xBU := yB.trans yU
      have li : i < 3000 := by
        have h1 : i < acc.length := hi
        have h2 : (outs ps).length ≤ ps.length := List.length_filter_le ..
        omega
      refine ⟨us, xBU.lst h3, by rw [la3]; exact Nat.lt_of_lt_of_le li (by decide), us ++ [.ref U], upd_same, ?_, ?_, ?_⟩
      · rw [List.take_add_one, hp1]
        rw [List.map_append]
        have xp : Ex [L] (upd (upd H3 B (.tup (wxs.drop 2))) U (.tup [.str (kdW p.1), .ref B, .ref a])) (upd (upd (upd H3 B (.tup (wxs.drop 2))) U (.tup [.str (kdW p.1), .ref B, .ref a])) L (.lst (us ++ [.ref U]))) := .put (xBU.lst h3) nt_lst (by simp)
        exact (((p3.ex xBU).app (.cons (Tp.tup (.of hU) (.cons (.str _) (.cons (.tup (.of (yU.tup hB)) (hwx.rest hop)) (.cons (.tup (xBU.seqT ha) (ints_tp _)) .nil)))) .nil)).ex xp)
      · rw [List.length_append, la3]; rfl
      · exact (x3.trans xBU.nil).trans (.put (xBU.lst h3) nt_lst (by simp))
    rintro H3 ⟨us, h3, p3, la3, x3⟩
    rw [lo, List.take_length] at p3
    exact q H3 L us (x02.trans (Ex.own nL yL x3)) (x02.f _ nL) h3 p3
abbrev scG_kn : Scope := ⟨.function, [(Str.ofString ".0", .local), (Str.ofString "form", .local), (Str.ofString "self", .free)], true, false, []⟩
theorem gxn_kn : GxN ["self"] (defScope s_keepsN) scG_kn ["form", "self"] 1 [0] := ⟨rfl, fun i j h => by
  match i, h with
  | 0, h => cases h; exact ⟨"self", rfl, rfl, by decide +kernel, .inl (by decide +kernel)⟩
  | i + 1, h => simp at h⟩
theorem gxs_kn : GxS (defScope s_keepsN) scG_kn := ⟨rfl, rfl, by decide +kernel, by decide +kernel, by decide +kernel⟩
theorem nd_kn : (["form", "self"] : List Str).Nodup := by decide +kernel
def anyK (ms : List Fo) (dv : List (Bx × Nat)) : Bool := dv.any fun x => (kpt ms).getD x.2 false
def spKeepsN (CM CT T5 : Addr) : Sp := fun vs H Q _ => ∃ (tr fm bx pt mk kn kp : Addr) (wt : Nat) (ms : List Fo) (tk : Bool) (dv : List (Bx × Nat)), vs = [.ref tr] ∧ GxR.TabG H T5 ∧ TrI CT H tr fm bx pt wt ∧ FmH CM H fm mk kn kp ms ∧ BdH H bx tk dv ∧ bx ≠ kn ∧ (∀ x ∈ dv, x.2 < ms.length) ∧ dv.length ≤ 3000 ∧ ∀ H', Ex [] H H' → Q (.bl (!anyK ms dv)) H'
theorem ok_keepsN {f c T5 CM CT : Addr} {k : Nat} {oc : Value} {od an : Option Addr} {osl : Array (Option Value)} {kV doc pm ct : Value}
    (lk : K.lookup f = some ⟨oc, od, .func (PySem.W.fnOf "keeps_nothing" "Trace.keeps_nothing" (defArgs s_keepsN) (defBody s_keepsN) (defScope s_keepsN) .none kV doc pm an (.ref c) ct), osl⟩) (hc : PySem.W.codeIn K (.ref c) "Trace.keeps_nothing" = true)
    (tab : GxR.TabB base mg c T5) (T : TT K mg CT) (TMk : TM K mg CM) (m_any : mg "any" = none) :
    FnOk P w K mg base CX0 (k + 3) f (PySem.W.fnOf "keeps_nothing" "Trace.keeps_nothing" (defArgs s_keepsN) (defBody s_keepsN) (defScope s_keepsN) .none kV doc pm an (.ref c) ct) ["self"] (spKeepsN CM CT T5) := by
  refine okC lk hc sc_keepsN (fun vs H Q E h => ?_) (fun A outer s H vs Q E hr h => ?_)
  · obtain ⟨tr, fm, bx, pt, mk, kn, kp, wt, ms, tk, dv, rfl, _⟩ := h; rfl
  · obtain ⟨tr, fm, bx, pt, mk, kn, kp, wt, ms, tk, dv, rfl, hT5, hT, hF, hB, nbk, hlt, hdl, q⟩ := h
    refine ⟨_, pss_one (ps_ret (pe_lock (pe_not (pe_anyG (N' := ["form", "self"]) (nt := 1) (js := [0]) (g := gName 0) (tt := tYes)
          ⟨tab, rfl, gxs_kn, gxn_kn, pi_or (pi_values (pe_fld (pv 0) rfl)) (pi_valuesT (pe_fld (pv 0) rfl)), fun _ _ _ _ _ _ _ _ => pg_name (i := 0) nd_kn rfl (.inl rfl), fun _ _ _ _ _ _ _ _ => pts_nil,
            fun _ _ _ _ _ _ _ r => pe_ix (ix_listK (K := K) rfl) (pe_fldK (K := K) rfl (pe_fldK (K := K) rfl (pv 1) rfl) rfl) (pv 0) (fun _ _ => rfl), fun _ => rfl⟩ hr (by rfl) m_any)))), ?_⟩
    obtain ⟨nb1, nb2, nb3, nb4⟩ := hB.ne hF hT
    obtain ⟨dx, fs, t1, t2, t3, _⟩ := id hT
    obtain ⟨⟨dm, gs, h1, l1, l2, l3, _⟩, _, _, h5, _⟩ := id hF
    cases tk with
    | true =>
      obtain ⟨_, hb⟩ := id hB
      have hb : H bx = some (.dK (dv.map fun x => (kS x.1, V.int x.2))) := hb
      refine ⟨bx, _, hb, trivial, fun od => ?_⟩
      have xl : Ex [bx] H (upd H bx (.frz od (.dK (dv.map fun x => (kS x.1, V.int x.2))))) := on_ex hb (fun _ z => by cases z) rfl
      have a1 := xl.a tr _ (by simpa using nb1.symm) t1 (fun _ z => by cases z)
      have a2 := xl.a fm _ (by simpa using nb2.symm) h1 (fun _ z => by cases z)
      have a3 := xl.lst h5 (by simpa using nb4.symm)
      refine .inl ⟨.ref tr, rfl, tr, CT, dx, fs, .ref bx, rfl, a1, T.cl, T.n1, t3, bx, od, _, rfl, upd_same, xl.t _ hT5, fun H2 tb => ?_⟩
      refine gx_it (walk_values (kvs := dv.map fun x => (kS x.1, V.int x.2))) (fun i ys H' => ys.length = i ∧ Ex [] (upd H bx (.frz od (.dK (dv.map fun x => (kS x.1, V.int x.2))))) H' ∧ H' bx = some (.frz od (.dK (dv.map fun x => (kS x.1, V.int x.2)))) ∧ (dv.take i).any (fun x => (kpt ms).getD x.2 false) = false) ?_ (fun i ys H' _ p => p.2.2.1) (fun i x ys H3 H4 hi p y => ?_) (fun ys H' p => ?_)
      · have xt := Ex.tabbed (xs := []) (xl.t _ hT5) tb
        exact ⟨rfl, xt, xt.a bx _ (by simp) upd_same (fun _ z => by cases z), rfl⟩
      · obtain ⟨rfl, ky, hx⟩ := y
        obtain ⟨pl, p1, p2, p3⟩ := p
        rw [List.getElem?_map] at hx
        cases hdv : dv[i]? with
        | none => rw [hdv] at hx; cases hx
        | some y =>
          rw [hdv] at hx
          obtain rfl : V.int y.2 = x := congrArg Prod.snd (Option.some.inj hx)
          have hy := hlt y (List.mem_of_getElem? hdv)
          refine ⟨fun j v e => ?_, ?_⟩
          · match j, e with
            | 1, e => exact e
            | 0, e => cases e
            | j + 2, e => simp [gst] at e
          · refine ⟨.ref tr, rfl, tr, CT, dx, fs, .ref fm, rfl, p1.a tr _ (by simp) a1 (fun _ z => by cases z), T.cl, T.n0, t2, fm, CM, dm, gs, .ref kp, rfl, p1.a fm _ (by simp) a2 (fun _ z => by cases z), TMk.cl, TMk.n2, l3, .int y.2, rfl, kp, _, y.2, _, rfl, rfl, .of (p1.lst a3), atI_nat (ks_at (by rw [kpt_len]; exact hy)), ?_⟩
            have ld : i < dv.length := (List.getElem?_eq_some_iff.mp hdv).1
            refine ⟨by rw [pl]; exact Nat.lt_of_lt_of_le (show i < 3000 by omega) (by decide), _, rfl, ?_⟩
            cases hk : (kpt ms).getD y.2 false with
            | true =>
              refine iteT ⟨_, rfl, p2, ?_⟩
              have e2 : anyK ms dv = true := List.any_eq_true.mpr ⟨y, List.mem_of_getElem? hdv, hk⟩
              have q2 := q _ (Ex.lock hb (fun _ z => by cases z) rfl p1 p2)
              rw [e2] at q2; exact q2
            | false =>
              refine iteF ⟨by rw [List.length_append, pl]; rfl, p1, p2, ?_⟩
              rw [List.take_add_one, hdv, List.any_append, p3]
              show (false || ((kpt ms).getD y.2 false || false)) = false
              rw [hk]; rfl
      · obtain ⟨pl, p1, p2, p3⟩ := p
        rw [List.length_map, List.take_length] at p3
        have e2 : anyK ms dv = false := p3
        refine ⟨_, rfl, p2, ?_⟩
        have q2 := q _ (Ex.lock hb (fun _ z => by cases z) rfl p1 p2)
        rw [e2] at q2; exact q2
    | false =>
      obtain ⟨_, hb⟩ := id hB
      have hb : H bx = some (.dT (dv.map fun x => (kT x.1, V.int x.2))) := hb
      refine ⟨bx, _, hb, trivial, fun od => ?_⟩
      have xl : Ex [bx] H (upd H bx (.frz od (.dT (dv.map fun x => (kT x.1, V.int x.2))))) := on_ex hb (fun _ z => by cases z) rfl
      have a1 := xl.a tr _ (by simpa using nb1.symm) t1 (fun _ z => by cases z)
      have a2 := xl.a fm _ (by simpa using nb2.symm) h1 (fun _ z => by cases z)
      have a3 := xl.lst h5 (by simpa using nb4.symm)
      refine .inr ⟨.ref tr, rfl, tr, CT, dx, fs, .ref bx, rfl, a1, T.cl, T.n1, t3, bx, od, _, rfl, upd_same, xl.t _ hT5, fun H2 tb => ?_⟩
      refine gx_it (walk_valuesT (kvs := dv.map fun x => (kT x.1, V.int x.2))) (fun i ys H' => ys.length = i ∧ Ex [] (upd H bx (.frz od (.dT (dv.map fun x => (kT x.1, V.int x.2))))) H' ∧ H' bx = some (.frz od (.dT (dv.map fun x => (kT x.1, V.int x.2)))) ∧ (dv.take i).any (fun x => (kpt ms).getD x.2 false) = false) ?_ (fun i ys H' _ p => p.2.2.1) (fun i x ys H3 H4 hi p y => ?_) (fun ys H' p => ?_)
      · have xt := Ex.tabbed (xs := []) (xl.t _ hT5) tb
        exact ⟨rfl, xt, xt.a bx _ (by simp) upd_same (fun _ z => by cases z), rfl⟩
      · obtain ⟨rfl, ky, hx⟩ := y
        obtain ⟨pl, p1, p2, p3⟩ := p
        rw [List.getElem?_map] at hx
        cases hdv : dv[i]? with
        | none => rw [hdv] at hx; cases hx
        | some y =>
          rw [hdv] at hx
          obtain rfl : V.int y.2 = x := congrArg Prod.snd (Option.some.inj hx)
          have hy := hlt y (List.mem_of_getElem? hdv)
          refine ⟨fun j v e => ?_, ?_⟩
          · match j, e with
            | 1, e => exact e
            | 0, e => cases e
            | j + 2, e => simp [gst] at e
          · refine ⟨.ref tr, rfl, tr, CT, dx, fs, .ref fm, rfl, p1.a tr _ (by simp) a1 (fun _ z => by cases z), T.cl, T.n0, t2, fm, CM, dm, gs, .ref kp, rfl, p1.a fm _ (by simp) a2 (fun _ z => by cases z), TMk.cl, TMk.n2, l3, .int y.2, rfl, kp, _, y.2, _, rfl, rfl, .of (p1.lst a3), atI_nat (ks_at (by rw [kpt_len]; exact hy)), ?_⟩
            have ld : i < dv.length := (List.getElem?_eq_some_iff.mp hdv).1
            refine ⟨by rw [pl]; exact Nat.lt_of_lt_of_le (show i < 3000 by omega) (by decide), _, rfl, ?_⟩
            cases hk : (kpt ms).getD y.2 false with
            | true =>
              refine iteT ⟨_, rfl, p2, ?_⟩
              have e2 : anyK ms dv = true := List.any_eq_true.mpr ⟨y, List.mem_of_getElem? hdv, hk⟩
              have q2 := q _ (Ex.lock hb (fun _ z => by cases z) rfl p1 p2)
              rw [e2] at q2; exact q2
            | false =>
              refine iteF ⟨by rw [List.length_append, pl]; rfl, p1, p2, ?_⟩
              rw [List.take_add_one, hdv, List.any_append, p3]
              show (false || ((kpt ms).getD y.2 false || false)) = false
              rw [hk]; rfl
      · obtain ⟨pl, p1, p2, p3⟩ := p
        rw [List.length_map, List.take_length] at p3
        have e2 : anyK ms dv = false := p3
        refine ⟨_, rfl, p2, ?_⟩
        have q2 := q _ (Ex.lock hb (fun _ z => by cases z) rfl p1 p2)
        rw [e2] at q2; exact q2
end
end K48

set_option maxHeartbeats 4000000
namespace K48
open PySem PySem.Spec PyProof.Rows L2 Kk
abbrev s_chold : Stmt := topS 27
abbrev n_chold : List Str := ["row", "hands", "code", "forms", "machine", "order"]
theorem sc_chold : FnScope n_chold ["row", "hands", "code"] (defScope s_chold) := ⟨rfl, rfl, rfl, by decide +kernel, rfl, by decide +kernel, by decide +kernel⟩
/-! what is compared can be compared -/
def StrW (W : Wo) : Prop := ∀ s, restW W = [.str s] → PyData.strOk s = true
theorem rest_lay {W : Wo} (h : StrW W) : PyData.canLayAll0 (restW W) = true := by
  cases W with
  | take b s =>
    show (PyData.strOk s && true) = true
    rw [h s rfl]; rfl
  | _ => rfl
theorem kd_ok (W : Wo) : PyData.strOk (kdW W) = true := by
  cases W <;> first
    | (show PyData.strOk (Str.ofString "take") = true; decide +kernel)
    | (show PyData.strOk (Str.ofString "ask") = true; decide +kernel)
    | (show PyData.strOk (Str.ofString "number") = true; decide +kernel)
    | (show PyData.strOk (Str.ofString "copy") = true; decide +kernel)
    | (show PyData.strOk (Str.ofString "mix") = true; decide +kernel)
    | (show PyData.strOk (Str.ofString "open") = true; decide +kernel)
    | (show PyData.strOk (Str.ofString "tell") = true; decide +kernel)
    | (show PyData.strOk (Str.ofString "wipe") = true; decide +kernel)
theorem ints_lay : ∀ as : List Nat, PyData.canLayAll0 (as.map fun n : Nat => PyData.int n) = true
  | [] => rfl
  | a :: r => by
    show (true && PyData.canLayAll0 (r.map fun n : Nat => PyData.int n)) = true
    rw [ints_lay r]; rfl
theorem ints_dep : ∀ as : List Nat, PyData.depthAll (as.map fun n : Nat => PyData.int n) ≤ 0
  | [] => Nat.le_refl _
  | a :: r => by
    show max (PyData.depth (.int a)) (PyData.depthAll (r.map fun n : Nat => PyData.int n)) ≤ 0
    have h1 := ints_dep r
    have h2 : PyData.depth (.int a) = 0 := rfl
    omega
theorem rest_dep (W : Wo) : PyData.depthAll (restW W) ≤ 0 := by
  cases W with
  | take b s => exact Nat.le_refl 0
  | _ => exact Nat.le_refl 0
theorem outP_lay {p : Wo × List Nat × Option Nat} (h : StrW p.1) : (outP p).canLay0 = true := by
  show (PyData.strOk (kdW p.1) && (PyData.canLayAll0 (restW p.1) && (PyData.canLayAll0 (p.2.1.map fun n : Nat => PyData.int n) && true))) = true
  rw [kd_ok, rest_lay h, ints_lay]; rfl
theorem outP_dep (p : Wo × List Nat × Option Nat) : (outP p).depth ≤ 2 := by
  have h1 := rest_dep p.1
  have h2 := ints_dep p.2.1
  show max (PyData.depth (.str (kdW p.1))) (max (PyData.depthAll (restW p.1) + 1) (max (PyData.depthAll (p.2.1.map fun n : Nat => PyData.int n) + 1) 0)) + 1 ≤ 2
  have h3 : PyData.depth (.str (kdW p.1)) = 0 := rfl
  omega
theorem outs_lay : ∀ ps : List (Wo × List Nat × Option Nat), (∀ p ∈ ps, StrW p.1) → PyData.canLayAll0 (ps.map outP) = true ∧ PyData.depthAll (ps.map outP) ≤ 2
  | [], _ => ⟨rfl, Nat.zero_le _⟩
  | p :: r, h => by
    obtain ⟨h1, h2⟩ := outs_lay r fun x hx => h x (List.mem_cons_of_mem _ hx)
    refine ⟨?_, ?_⟩
    · show ((outP p).canLay0 && PyData.canLayAll0 (r.map outP)) = true
      rw [outP_lay (h p List.mem_cons_self), h1]; rfl
    · show max (outP p).depth (PyData.depthAll (r.map outP)) ≤ 2
      have := outP_dep p
      omega
theorem outs_shaped {ps : List (Wo × List Nat × Option Nat)} (h : ∀ p ∈ ps, StrW p.1) : SeqAt.shaped (.list ((outs ps).map outP)) = true := by
  obtain ⟨h1, h2⟩ := outs_lay (outs ps) fun p hp => h p (List.mem_filter.mp hp).1
  unfold SeqAt.shaped
  have e1 : PyData.canLay0 (.list ((outs ps).map outP)) = true := h1
  have e2 : PyData.depth (.list ((outs ps).map outP)) ≤ 64 := by
    show PyData.depthAll ((outs ps).map outP) + 1 ≤ 64
    omega
  rw [e1, decide_eq_true e2]; rfl
theorem runT_words {t : Ts} : ∀ {ws : List Wo}, (runT t ws).ps.map (·.1) = t.ps.map (·.1) ++ ws := by
  intro ws
  induction ws generalizing t with
  | nil => simp [runT]
  | cons W r ih =>
    show (runT (stepT t W) r).ps.map (·.1) = _
    rw [ih]
    show (t.ps ++ [_]).map _ ++ r = _
    rw [List.map_append]
    simp
theorem runT_str {t : Ts} {ws : List Wo} (h0 : t.ps = []) (h : ∀ W ∈ ws, StrW W) : ∀ p ∈ (runT t ws).ps, StrW p.1 := fun p hp => by
  have h1 : p.1 ∈ (runT t ws).ps.map (·.1) := List.mem_map.mpr ⟨p, hp, rfl⟩
  rw [runT_words, h0] at h1
  exact h _ h1
/-- what a code does beside a row -/
def mach (os : List Or) : Ts := runT ⟨[.number 0], [], 0, []⟩ (os.map asW)
def beside (os : List Or) (ws : List Wo) : Ts := runT ⟨(mach os).ms, [], 0, []⟩ ws
def holdsB (ws : List Wo) (os : List Or) : Bool := !anyK (mach os).ms (mach os).dv && PyData.eqv (.list ((outs (mach os).ps).map outP)) (.list ((outs (beside os ws).ps).map outP))
theorem asW_kd (o : Or) : KdW false (asW o) := by
  cases o <;> refine ⟨rfl, ?_⟩ <;> simp [asW, askB, isS]
theorem runT_len {t : Ts} {ws : List Wo} : (runT t ws).ps.length = t.ps.length + ws.length := by
  have h := congrArg List.length (runT_words (t := t) (ws := ws))
  rw [List.length_map, List.length_append, List.length_map] at h
  exact h
section
variable {P : Program} {w : World} {K : PySem.W.Frag} {mg : Str → Option Value} {base : Heap}
def spHolds (K : PySem.W.Frag) (T1 T3 T4 T5 : Addr) : Sp := fun vs H Q _ => ∃ (r : Addr) (hh : Int) (v : V) (d : PyData) (xs : List V) (ws : List Wo), vs = [.ref r, .int hh, v] ∧ Dp K H v d ∧ Dk d ∧ GxR.TabG H T1 ∧ GxR.TabG H T3 ∧ GxR.TabG H T4 ∧ GxR.TabG H T5 ∧ SqT K H r xs ∧ P2 (WoH K H) xs ws ∧ (∀ W ∈ ws, KdW true W) ∧ (∀ W ∈ ws, StrW W) ∧ ws.length ≤ 500 ∧
  ((codeD hh d = false ∧ ∀ H', Ex [] H H' → Q (.bl false) H') ∨ ∃ os : List Or, codeD hh d = true ∧ Tp K H v (.tuple (os.map orD)) ∧ os.length ≤ 1900 ∧ (∀ o ∈ os, StrW (asW o)) ∧ ∀ H', Ex [] H H' → Q (.bl (holdsB ws os)) H')
theorem ok_chold {f CM CT fI fT fN fO f1 f2 T1 T3 T4 T5 : Addr} {fd fdI fdT fdN fdO d1 d2 : FuncData} {k : Nat} (F : Fun K "code_holds" "code_holds" s_chold f fd) (T : TT K mg CT) (TMk : TM K mg CM)
    (MM : Mk K CM fI) (GI : FnOk P w K mg base CX0 k fI fdI ["self"] (spFoInit CM)) (bI : Binds K fdI ["self"] []) (MT : Mk K CT fT) (GT : FnOk P w K mg base CX0 k fT fdT ["self", "row", "forms"] (spTrInit K CM CT)) (bT : Binds K fdT ["self", "row", "forms"] [])
    (GN : FnOk P w K mg base CX0 (k + 1) fN fdN ["self"] (spKeepsN CM CT T5)) (mN : Meth K CT "keeps_nothing" fN) (bN : Binds K fdN ["self"] []) (GO : FnOk P w K mg base CX0 (k + 1) fO fdO ["self"] (spOuter K CT)) (mO : Meth K CT "outer" fO) (bO : Binds K fdO ["self"] [])
    (C_is_code : Cl P w K mg base (k + 1) "is_code" ["hands", "thing"] (spCode K T1 T3 T4) f1 d1) (C_as_word : Cl P w K mg base (k + 1) "as_word" ["order"] (spAs K) f2 d2) : FnOk P w K mg base CX0 (k + 2) f fd ["row", "hands", "code"] (spHolds K T1 T3 T4 T5) := by
  refine F.ok sc_chold (fun vs H Q E h => ?_) (fun cdv A outer s H vs Q E hr h => ?_)
  · obtain ⟨r, hh, v, d, xs, ws, rfl, _⟩ := h; rfl
  · obtain ⟨r, hh, v, d, xs, ws, rfl, hd, hk, g1, g3, g4, g5, hr0, hws, hkd, hst, hwl, q⟩ := h
    refine ⟨_, (pss_cons (ps_if (pt_not (pt_val (pe_call C_is_code.g hr (by rfl) C_is_code.m C_is_code.k C_is_code.b .nil pass0 (pa_cons (pv 1) (pa_cons (pv 2) pa_nil))))) (pss_one (ps_ret pe_bl)) pss_nil)
      (pss_cons (ps_set (i := 3) sc_chold.nd rfl (.inl rfl) (pe_make0 MM GI hr (by rfl) TMk.mgC bI .nil pass0))
      (pss_cons (ps_set (i := 4) sc_chold.nd rfl (.inl rfl) (pe_make MT GT hr (by rfl) T.mgC bT .nil pass0 (pa_cons (pe_lc (own := [("order", 5)]) (g := gName 5) (tt := tYes) rfl sc_chold.nd (pi_tup (pv 2)) (blkOk_by (N := n_chold) (sc := defScope s_chold) (by decide +kernel)) (fun _ _ _ _ _ => pg_name (i := 5) sc_chold.nd rfl (Or.inl rfl)) (fun _ _ _ _ _ => pts_nil) (fun _ _ _ _ _ => (pe_call C_as_word.g hr (by rfl) C_as_word.m C_as_word.k C_as_word.b .nil pass0 (pa_cons (pv 5) pa_nil)))) (pa_cons (pv 3) pa_nil))))
      (pss_one (ps_ret (pe_and (pe_meth0 (pv 4) T.cl mN GN hr bN .nil pass0) (pe_one (pe_cmpR (op_eqD hr.units) (pe_meth0 (pv 4) T.cl mO GO hr bO .nil pass0) (pe_meth0 (pe_make MT GT hr (by rfl) T.mgC bT .nil pass0 (pa_cons (pv 0) (pa_cons (pv 3) pa_nil))) T.cl mO GO hr bO .nil pass0) (nomark _))))))))), ?_⟩
    refine ⟨.int hh, rfl, v, rfl, hh, v, d, rfl, hd, hk, g1, g3, g4, fun H1 x1 => ?_⟩
    rcases q with ⟨ec, q⟩ | ⟨os, ec, hos, hol, hso, q⟩
    · rw [ec]
      exact ⟨_, rfl, iteT (q H1 x1)⟩
    rw [ec]
    refine ⟨_, rfl, iteF ?_⟩
    refine fun fm dx nfm ndx nex => ?_
    have xd : Ex [] H1 (upd H1 dx (.own fm)) := .new ndx
    have nfm2 : (upd H1 dx (.own fm)) fm = none := by rw [upd_ne nex.symm]; exact nfm
    have xf : Ex [] (upd H1 dx (.own fm)) (upd (upd H1 dx (.own fm)) fm (.ins CM dx [])) := .new nfm2
    refine ⟨fm, dx, rfl, upd_same, fun H2 mk kn kp x2 n1 n2 n3 F2 => ⟨rfl, ?_⟩⟩
    have x12 : Ex [] H1 H2 := ex_onto (fun z hz => by rw [List.mem_singleton.mp hz]; exact .inr nfm) (xd.trans xf) x2
    have x02 := x1.trans x12
    have m1 : H mk = none := x1.f _ ((xd.trans xf).f _ n1)
    have m2 : H kn = none := x1.f _ ((xd.trans xf).f _ n2)
    have m3 : H kp = none := x1.f _ ((xd.trans xf).f _ n3)
    clear n1 n2 n3 x2 xd xf nfm2
    cases hos with
    | @tup ca cxs _ hca hco =>
    refine ⟨.ref ca, rfl, ca, rfl, ⟨_, x02.seqT hca⟩, fun L nL => ?_⟩
    obtain ⟨yL, hL⟩ := nw46 (o := .lst []) nL
    have lco := hco.len
    rw [List.length_map] at lco
    refine lc_it (walk_tup (K := K) (a := ca) (xs := cxs)) (fun i H3 => ∃ acc, H3 L = some (.lst acc) ∧ P2 (WoH K H3) acc ((os.take i).map asW) ∧ acc.length = i ∧ Ex [L] (upd H2 L (.lst [])) H3) ⟨[], hL, .nil, rfl, .refl⟩ ?_ ?_ ?_
    · rintro i H3 _ ⟨acc, _, _, _, x3⟩
      exact x3.seqT (yL.seqT (x02.seqT hca))
    · rintro i v H0 H3 hi ⟨acc, h3, p3, la3, x3⟩ ⟨rfl, hx⟩
      obtain ⟨e, he, te⟩ := hco.get hx
      rw [List.getElem?_map] at he
      cases ho : os[i]? with
      | none => rw [ho] at he; cases he
      | some o =>
        rw [ho] at he
        obtain rfl : orD o = e := Option.some.inj he
        refine ⟨rfl, tyes_if ⟨v, rfl, v, o, rfl, ((te.ex x02).ex yL).ex x3, fun H4 u x4 hu => ?_⟩⟩
        have hL4 := x4.lst h3
        have li : i < os.length := by rw [← lco]; exact hi
        refine ⟨acc, hL4, by rw [la3]; exact Nat.lt_of_lt_of_le (show i < 1900 by omega) (by decide), acc ++ [u], upd_same, ?_, ?_, ?_⟩
        · have xp : Ex [L] H4 (upd H4 L (.lst (acc ++ [u]))) := .put hL4 nt_lst (by simp)
          rw [List.take_add_one, ho, List.map_append]
          exact ((p3.imp fun _ _ h => h.ex x4).app (.cons hu .nil)).imp fun _ _ h => h.ex xp
        · rw [List.length_append, la3]; rfl
        · exact (x3.trans x4.nil).trans (.put hL4 nt_lst (by simp))
    rintro H3 ⟨acc, h3, p3, la3, x3⟩
    rw [lco, List.take_length] at p3
    have x23 : Ex [] H2 H3 := Ex.own nL yL x3
    have F3 := F2.nil x23
    obtain ⟨_, ⟨mvs, hmk, _⟩, hkn, hkp, _⟩ := id F2
    have Lmk : L ≠ mk := fun z => by rw [z, hmk] at nL; cases nL
    have Lkp : L ≠ kp := fun z => by rw [z, hkp] at nL; cases nL
    refine ⟨.ref fm, rfl, fun tr dt ntr ndt net => ?_⟩
    have xd : Ex [] H3 (upd H3 dt (.own tr)) := .new ndt
    have ntr2 : (upd H3 dt (.own tr)) tr = none := by rw [upd_ne net.symm]; exact ntr
    have xf : Ex [] (upd H3 dt (.own tr)) (upd (upd H3 dt (.own tr)) tr (.ins CT dt [])) := .new ntr2
    have x34 := xd.trans xf
    have trfm : tr ≠ fm := fun z => by
      obtain ⟨⟨_, _, h1, _⟩, _⟩ := F3
      rw [z, h1] at ntr; cases ntr
    have ht4 : (upd (upd H3 dt (.own tr)) tr (.ins CT dt [])) tr = some (.ins CT dt []) := upd_same
    generalize upd (upd H3 dt (.own tr)) tr (.ins CT dt []) = H4 at x34 ht4 ⊢
    clear xd xf ntr2
    refine ⟨tr, dt, L, fm, mk, kn, kp, acc, os.map asW, false, [.number 0], rfl, ht4, F3.nil x34, trfm, .inr ⟨x34.lst h3, Lmk, Lkp⟩, p3.imp fun _ _ h => h.ex x34, ?_, by rw [List.length_map]; omega, by decide, by decide, fun H5 bx pt pvs x5 T5' F5 B5 hpt hpp nbx npt => ⟨rfl, ?_⟩⟩
    · intro W hW
      obtain ⟨o, _, rfl⟩ := List.mem_map.mp hW
      exact asW_kd o
    have okM := runT_ok (n0 := 1) (t := ⟨[.number 0], [], 0, []⟩) ⟨by decide, by decide, by decide, by decide, by simp⟩ (os.map asW)
    rw [List.length_map] at okM
    have x25 : Ex [mk, kn, kp] H3 H5 := ex_onto (fun z hz => by
      simp only [List.mem_cons, List.not_mem_nil, or_false] at hz
      rcases hz with rfl | rfl | rfl | rfl
      · exact .inr ntr
      · exact .inl (by simp)
      · exact .inl (by simp)
      · exact .inl (by simp)) (x34.nil (ys := [mk, kn, kp])) x5
    have nb4 : bx ≠ kn := fun z => by
      have h := x34.a kn _ (by simp) (x23.a kn _ (by simp) hkn (fun _ z => by cases z)) (fun _ z => by cases z)
      rw [z, h] at nbx; cases nbx
    obtain ⟨dx5, fs5, t1, t2, t3, t4, t5, t6, t7, t8, t9, t10⟩ := id T5'
    have nmk := F5.ne
    have x05 : Ex [] H H5 := ex_onto (fun z hz => by
      simp only [List.mem_cons, List.not_mem_nil, or_false] at hz
      rcases hz with rfl | rfl | rfl
      · exact .inr m1
      · exact .inr m2
      · exact .inr m3) (x02.trans x23) x25
    have lps : (mach os).ps.length = os.length := by
      have h := runT_len (t := ⟨[.number 0], [], 0, []⟩) (ws := os.map asW)
      rw [List.length_map] at h
      exact h.trans (Nat.zero_add _)
    refine ⟨.ref tr, rfl, tr, dx5, fs5, rfl, t1, t9, tr, fm, bx, pt, mk, kn, kp, (mach os).wt, (mach os).ms, false, (mach os).dv, rfl, x05.t _ g5, T5', F5, B5, nb4, okM.v, Nat.le_trans okM.d (by omega), fun H6 x6 => ?_⟩
    refine ⟨_, rfl, ?_⟩
    cases eK : anyK (mach os).ms (mach os).dv with
    | true =>
      have e0 : holdsB ws os = false := by unfold holdsB; rw [eK]; rfl
      rw [e0] at q
      exact iteF (q _ (x05.trans x6))
    | false =>
      have e0 : holdsB ws os = PyData.eqv (.list ((outs (mach os).ps).map outP)) (.list ((outs (beside os ws).ps).map outP)) := by unfold holdsB; rw [eK]; rfl
      rw [e0] at q
      refine iteT ?_
      refine ⟨.ref tr, rfl, tr, dx5, fs5, rfl, x6.a tr _ (by simp) t1 (fun _ z => by cases z), t8, tr, fm, bx, pt, (mach os).wt, pvs, (mach os).ps, rfl, T5'.ex x6 (by simp), x6.lst hpt, hpp.imp fun _ _ h => h.ex x6, by omega, fun H7 l1 us1 x7 nl1 hl1 tp1 => ?_⟩
      have x57 := x6.trans x7
      have F7 := F5.nil x57
      refine ⟨.ref r, rfl, .ref fm, rfl, fun tr2 dt2 ntr2 ndt2 net2 => ?_⟩
      have xd : Ex [] H7 (upd H7 dt2 (.own tr2)) := .new ndt2
      have ntr3 : (upd H7 dt2 (.own tr2)) tr2 = none := by rw [upd_ne net2.symm]; exact ntr2
      have xf : Ex [] (upd H7 dt2 (.own tr2)) (upd (upd H7 dt2 (.own tr2)) tr2 (.ins CT dt2 [])) := .new ntr3
      have x78 := xd.trans xf
      have tfm2 : tr2 ≠ fm := fun z => by
        obtain ⟨⟨_, _, h1, _⟩, _⟩ := F7
        rw [z, h1] at ntr2; cases ntr2
      have ht8 : (upd (upd H7 dt2 (.own tr2)) tr2 (.ins CT dt2 [])) tr2 = some (.ins CT dt2 []) := upd_same
      have l1t : l1 ≠ tr2 := fun z => by rw [← z, hl1] at ntr2; cases ntr2
      obtain ⟨_, ⟨mvs5, hmk5, _⟩, hkn5, hkp5, _⟩ := id F5
      have l1m : l1 ≠ mk := fun z => by rw [z, x6.lst hmk5] at nl1; cases nl1
      have l1k : l1 ≠ kn := fun z => by rw [z, x6.a kn _ (by simp) hkn5 (fun _ z => by cases z)] at nl1; cases nl1
      have l1p : l1 ≠ kp := fun z => by rw [z, x6.lst hkp5] at nl1; cases nl1
      have hl18 := x78.lst hl1
      have tp18 := tp1.ex x78
      generalize upd (upd H7 dt2 (.own tr2)) tr2 (.ins CT dt2 []) = H8 at x78 ht8 hl18 tp18 ⊢
      have x08 := x05.trans (x57.trans x78)
      refine ⟨tr2, dt2, r, fm, mk, kn, kp, xs, ws, true, (mach os).ms, rfl, ht8, F7.nil x78, tfm2, .inl (x08.seqT hr0), hws.imp fun _ _ h => h.ex x08, hkd, by omega, okM.p, Nat.le_trans okM.l (by omega), fun H9 bx2 pt2 pvs2 x9 T9 F9 B9 hpt2 hpp2 _ _ => ⟨rfl, ?_⟩⟩
      obtain ⟨dx9, fs9, u1, u2, u3, u4, u5, u6, u7, u8, u9, u10⟩ := id T9
      have lps2 : (beside os ws).ps.length ≤ 3000 := by
        have h := runT_len (t := ⟨(mach os).ms, [], 0, []⟩) (ws := ws)
        have h2 : (beside os ws).ps.length = 0 + ws.length := h
        omega
      refine ⟨tr2, dx9, fs9, rfl, u1, u8, tr2, fm, bx2, pt2, (beside os ws).wt, pvs2, (beside os ws).ps, rfl, T9, hpt2, hpp2, lps2, fun H10 l2 us2 x10 nl2 hl2 tp2 => ?_⟩
      have hl19 := x9.lst hl18 (by simp [l1t, l1m, l1k, l1p])
      refine ⟨.list _, .list _, .lst (.of (x10.lst hl19)) ((tp18.ex x9).ex x10).dp, .lst (.of hl2) tp2.dp, outs_shaped (runT_str rfl fun W hW => ?_), outs_shaped (runT_str rfl hst), ?_⟩
      · obtain ⟨o, ho, rfl⟩ := List.mem_map.mp hW
        exact hso o ho
      · refine q _ (ex_onto (fun z hz => ?_) x08 (x9.trans x10.nil))
        simp only [List.mem_cons, List.not_mem_nil, or_false] at hz
        rcases hz with rfl | rfl | rfl | rfl
        · exact .inr (x05.f _ (x57.f _ ntr2))
        · exact .inr m1
        · exact .inr m2
        · exact .inr m3
end
end K48

set_option maxHeartbeats 4000000
namespace K48
open PySem PySem.Spec PyProof.Rows L2 Kk
/-! traces without order: what is held as a function -/
structure As where
  ms : List Fo
  g : Bx → Nat
  wt : Nat
  X : List PyData
def setG (g : Bx → Nat) (b : Bx) : Option Nat → Bx → Nat
  | none => g
  | some n => fun c => if c = b then n else g c
def stepA (a : As) (W : Wo) : As := ⟨(formB a.ms a.wt ((askB W).map a.g) W).1, setG a.g (boxW W) (formB a.ms a.wt ((askB W).map a.g) W).2.2, (formB a.ms a.wt ((askB W).map a.g) W).2.1, if isO W = true then a.X ++ [outP (W, (askB W).map a.g, (formB a.ms a.wt ((askB W).map a.g) W).2.2)] else a.X⟩
def runA (a : As) (ws : List Wo) : As := ws.foldl stepA a
def absT (t : Ts) : As := ⟨t.ms, gt t.dv, t.wt, (outs t.ps).map outP⟩
theorem abs_step (t : Ts) (W : Wo) : absT (stepT t W) = stepA (absT t) W := by
  unfold absT stepA stepT
  have e1 : gt (ptO t.dv (boxW W) (formB t.ms t.wt ((askB W).map (gt t.dv)) W).2.2) = setG (gt t.dv) (boxW W) (formB t.ms t.wt ((askB W).map (gt t.dv)) W).2.2 := by
    cases (formB t.ms t.wt ((askB W).map (gt t.dv)) W).2.2 with
    | none => rfl
    | some n => funext c; exact gt_pt
  have e2 : (outs (t.ps ++ [(W, (askB W).map (gt t.dv), (formB t.ms t.wt ((askB W).map (gt t.dv)) W).2.2)])).map outP = if isO W = true then (outs t.ps).map outP ++ [outP (W, (askB W).map (gt t.dv), (formB t.ms t.wt ((askB W).map (gt t.dv)) W).2.2)] else (outs t.ps).map outP := by
    rw [outs_snoc]
    split
    · rw [List.map_append]; rfl
    · rfl
  simp only [e1, e2]
theorem abs_run : ∀ (ws : List Wo) (t : Ts), absT (runT t ws) = runA (absT t) ws
  | [], _ => rfl
  | W :: r, t => by
    show absT (runT (stepT t W) r) = runA (stepA (absT t) W) r
    rw [abs_run r, abs_step]
theorem runA_app (a : As) (u v : List Wo) : runA a (u ++ v) = runA (runA a u) v := by unfold runA; rw [List.foldl_append]
/-! tables that grow -/
theorem made_pre (ms : List Fo) (m : Fo) : ms <+: (made ms m).1 := by
  unfold made
  split
  · exact List.prefix_refl _
  · exact List.prefix_append _ _
theorem ixG_pre {ms M : List Fo} {m : Fo} {i : Nat} (h : ms <+: M) (e : ixG 0 ms m = some i) : ixG 0 M m = some i := by
  obtain ⟨r, rfl⟩ := h
  have : ∀ (r ms : List Fo), ixG 0 ms m = some i → ixG 0 (ms ++ r) m = some i := by
    intro r
    induction r with
    | nil => intro ms h; rw [List.append_nil]; exact h
    | cons x r ih =>
      intro ms h
      have := ih (ms ++ [x]) (by rw [ixG_app, h]; rfl)
      rw [List.append_assoc] at this
      exact this
  exact this r ms e
theorem made_in (ms : List Fo) (m : Fo) : ixG 0 (made ms m).1 m = some (made ms m).2 := by
  unfold made
  cases e : ixG 0 ms m with
  | some i => exact e
  | none =>
    show ixG 0 (ms ++ [m]) m = some ms.length
    rw [ixG_app, e, if_pos rfl, Nat.zero_add]; rfl
theorem made_ext {ms M : List Fo} {m : Fo} (h : (made ms m).1 <+: M) : made M m = (M, (made ms m).2) := by
  have e := ixG_pre h (made_in ms m)
  show (match ixG 0 M m with | some i => (M, i) | none => (M ++ [m], M.length)) = _
  rw [e]
/-! what keeps a worth -/
def WF (ms : List Fo) : Prop := (∃ r, ms = .number 0 :: r) ∧ ∀ (i : Nat) (m : Fo), ms[i]? = some m → MkOk i m
theorem WF.made {ms : List Fo} {m : Fo} (h : WF ms) (o : MkOk ms.length m) : WF (made ms m).1 := by
  show WF (match ixG 0 ms m with | some i => (ms, i) | none => (ms ++ [m], ms.length)).1
  cases ixG 0 ms m with
  | some i => exact h
  | none =>
    obtain ⟨⟨r, e⟩, h2⟩ := h
    refine ⟨⟨r ++ [m], by show ms ++ [m] = _; rw [e]; rfl⟩, fun i x hx => ?_⟩
    have hx : (ms ++ [m])[i]? = some x := hx
    by_cases l : i < ms.length
    · rw [List.getElem?_append_left l] at hx; exact h2 i x hx
    · rw [List.getElem?_append_right (by omega)] at hx
      cases z : i - ms.length with
      | zero =>
        rw [z] at hx
        cases hx
        rw [show i = ms.length by omega]; exact o
      | succ j => rw [z] at hx; cases hx
def kk (ms : List Fo) (i : Nat) : Bool := (kpt ms).getD i false
theorem kk_app {ms : List Fo} {m : Fo} {i : Nat} (h : i < ms.length) : kk (ms ++ [m]) i = kk ms i := by
  unfold kk
  rw [kpt_app, List.getD_eq_getElem?_getD, List.getD_eq_getElem?_getD, List.getElem?_append_left (by rw [kpt_len]; exact h)]
theorem kk_pre {ms M : List Fo} {i : Nat} (h : ms <+: M) (l : i < ms.length) : kk M i = kk ms i := by
  obtain ⟨r, rfl⟩ := h
  have : ∀ (r ms : List Fo), i < ms.length → kk (ms ++ r) i = kk ms i := by
    intro r
    induction r with
    | nil => intro ms _; rw [List.append_nil]
    | cons x r ih =>
      intro ms l
      have h1 := ih (ms ++ [x]) (by rw [List.length_append]; omega)
      rw [List.append_assoc] at h1
      exact h1.trans (kk_app l)
  exact this r ms l
theorem keeps_pre {ms M : List Fo} {m : Fo} (h : ms <+: M) (o : MkOk ms.length m) : keeps (kpt M) m = keeps (kpt ms) m := by
  cases m with
  | mix i j =>
    show (kk M i || kk M j) = (kk ms i || kk ms j)
    rw [kk_pre h o.1, kk_pre h o.2]
  | _ => rfl
theorem kk_at {ms : List Fo} (w : WF ms) {i : Nat} {m : Fo} (h : ms[i]? = some m) : kk ms i = keeps (kpt ms) m := by
  have l : i < ms.length := (List.getElem?_eq_some_iff.mp h).1
  have o := w.2 i m h
  have p : ms.take i ++ [m] <+: ms := by
    have : ms.take (i + 1) <+: ms := List.take_prefix _ _
    rw [List.take_add_one, h] at this
    exact this
  have li : (ms.take i).length = i := by rw [List.length_take]; omega
  rw [kk_pre p (by rw [List.length_append, li]; simp)]
  have : kk (ms.take i ++ [m]) i = keeps (kpt (ms.take i)) m := by
    unfold kk
    rw [kpt_app, List.getD_eq_getElem?_getD, List.getElem?_append_right (by rw [kpt_len, li]; exact Nat.le_refl _), kpt_len, li, Nat.sub_self]; rfl
  rw [this]
  exact (keeps_pre (List.take_prefix _ _) (by rw [li]; exact o)).symm
theorem kk_made {ms : List Fo} {m : Fo} (w : WF ms) (o : MkOk ms.length m) : kk (made ms m).1 (made ms m).2 = keeps (kpt ms) m := by
  have e := (ixG_lt (made_in ms m)).2.2
  rw [Nat.sub_zero] at e
  rw [kk_at (w.made o) e]
  exact keeps_pre (made_pre ms m) o
theorem kk_zero {ms : List Fo} (w : WF ms) : kk ms 0 = false := by
  obtain ⟨⟨r, e⟩, _⟩ := id w
  rw [kk_at w (m := .number 0) (by rw [e]; rfl)]; rfl
/-- what is true of each state -/
structure AOk (a : As) : Prop where
  w : WF a.ms
  v : ∀ b, a.g b < a.ms.length
theorem AOk.p {a : As} (h : AOk a) : 0 < a.ms.length := by obtain ⟨⟨r, e⟩, _⟩ := h.w; rw [e]; simp
def kA (a : As) (b : Bx) : Bool := kk a.ms (a.g b)
def kW (f : Bx → Bool) : Wo → Bool
  | .take _ _ => true
  | .copy _ c => f c
  | .mix _ c d => f c || f d
  | _ => false
def isTell : Wo → Bool
  | .tell _ => true
  | _ => false
def stepK (f : Bx → Bool) (W : Wo) : Bx → Bool := fun b => if b = boxW W ∧ isTell W = false then kW f W else f b
theorem form_ok {a : As} (h : AOk a) (W : Wo) : WF (stepA a W).ms ∧ a.ms <+: (stepA a W).ms ∧ (∀ n, (formB a.ms a.wt ((askB W).map a.g) W).2.2 = some n → n < (stepA a W).ms.length ∧ kk (stepA a W).ms n = kW (kA a) W) ∧ ((formB a.ms a.wt ((askB W).map a.g) W).2.2 = none ↔ isTell W = true) := by
  have mk : ∀ m, MkOk a.ms.length m → WF (made a.ms m).1 ∧ a.ms <+: (made a.ms m).1 ∧ ∀ n, some (made a.ms m).2 = some n → n < (made a.ms m).1.length ∧ kk (made a.ms m).1 n = keeps (kpt a.ms) m := fun m o => ⟨h.w.made o, made_pre _ _, fun n e => by cases e; exact ⟨made_some.1, kk_made h.w o⟩⟩
  have st : ∀ (x : Nat) (kv : Bool), x < a.ms.length → kk a.ms x = kv → WF a.ms ∧ a.ms <+: a.ms ∧ ∀ n, some x = some n → n < a.ms.length ∧ kk a.ms n = kv := fun x kv l e => ⟨h.w, List.prefix_refl _, fun n z => by cases z; exact ⟨l, e⟩⟩
  cases W with
  | take b s => obtain ⟨h1, h2, h3⟩ := mk (.take (a.wt + 1)) trivial; exact ⟨h1, h2, h3, by simp [formB, isTell]⟩
  | ask b => obtain ⟨h1, h2, h3⟩ := mk (.ask (a.wt + 1)) trivial; exact ⟨h1, h2, h3, by simp [formB, isTell]⟩
  | number b n => obtain ⟨h1, h2, h3⟩ := mk (.number n) trivial; exact ⟨h1, h2, h3, by simp [formB, isTell]⟩
  | copy b c => obtain ⟨h1, h2, h3⟩ := st (a.g c) _ (h.v c) rfl; exact ⟨h1, h2, h3, by simp [formB, isTell]⟩
  | mix b c d => obtain ⟨h1, h2, h3⟩ := mk (.mix (a.g c) (a.g d)) ⟨h.v c, h.v d⟩; exact ⟨h1, h2, h3, by simp [formB, isTell]⟩
  | opn b c => obtain ⟨h1, h2, h3⟩ := mk (.opn (a.g c)) (h.v c); exact ⟨h1, h2, h3, by simp [formB, isTell]⟩
  | tell b => exact ⟨h.w, List.prefix_refl _, (fun n z => by cases z), by simp [formB, isTell]⟩
  | wipe b => obtain ⟨h1, h2, h3⟩ := st 0 false h.p (kk_zero h.w); exact ⟨h1, h2, h3, by simp [formB, isTell]⟩
theorem AOk.step {a : As} (h : AOk a) (W : Wo) : AOk (stepA a W) := by
  obtain ⟨h1, h2, h3, _⟩ := form_ok h W
  refine ⟨h1, fun b => ?_⟩
  show setG a.g (boxW W) _ b < _
  cases e : (formB a.ms a.wt ((askB W).map a.g) W).2.2 with
  | none => exact Nat.lt_of_lt_of_le (h.v b) h2.length_le
  | some n =>
    show (if b = boxW W then n else a.g b) < _
    split
    · exact (h3 n e).1
    · exact Nat.lt_of_lt_of_le (h.v b) h2.length_le
theorem kA_step {a : As} (h : AOk a) (W : Wo) : kA (stepA a W) = stepK (kA a) W := by
  obtain ⟨h1, h2, h3, h4⟩ := form_ok h W
  funext b
  show kk (stepA a W).ms (setG a.g (boxW W) _ b) = if b = boxW W ∧ isTell W = false then kW (kA a) W else kk a.ms (a.g b)
  cases e : (formB a.ms a.wt ((askB W).map a.g) W).2.2 with
  | none =>
    rw [if_neg fun z => by rw [h4.mp e] at z; cases z.2]
    exact kk_pre h2 (h.v b)
  | some n =>
    have nt : isTell W = false := by
      cases z : isTell W with
      | false => rfl
      | true => rw [h4.mpr z] at e; cases e
    show kk (stepA a W).ms (if b = boxW W then n else a.g b) = _
    by_cases hb : b = boxW W
    · rw [if_pos hb, if_pos ⟨hb, nt⟩]; exact (h3 n e).2
    · rw [if_neg hb, if_neg fun z => hb z.1]; exact kk_pre h2 (h.v b)
theorem AOk.run {a : As} (h : AOk a) : ∀ ws : List Wo, AOk (runA a ws) := by
  intro ws
  induction ws generalizing a with
  | nil => exact h
  | cons W r ih => exact ih (h.step W)
def runK (f : Bx → Bool) (ws : List Wo) : Bx → Bool := ws.foldl stepK f
theorem kA_run : ∀ {ws : List Wo} {a : As}, AOk a → kA (runA a ws) = runK (kA a) ws
  | [], _, _ => rfl
  | W :: r, a, h => by
    show kA (runA (stepA a W) r) = runK (stepK (kA a) W) r
    rw [kA_run (h.step W), kA_step h]
theorem pre_run {a : As} (h : AOk a) : ∀ ws : List Wo, a.ms <+: (runA a ws).ms := by
  intro ws
  induction ws generalizing a with
  | nil => exact List.prefix_refl _
  | cons W r ih => exact (form_ok h W).2.1.trans (ih (h.step W))
end K48

set_option maxHeartbeats 4000000
namespace K48
open PySem PySem.Spec PyProof.Rows L2 Kk
/-! codes laid beside a row -/
abbrev bH (h : Nat) : Bx := .q hnd h
abbrev bS (s : Nat) : Bx := .q slt s
theorem hs_ne : ¬ hnd = slt := by decide +kernel
theorem bHS {a b : Nat} : (bH a = bS b) = False := by
  apply propext; constructor
  · intro z; exact hs_ne (Bx.q.inj z).1
  · exact False.elim
theorem bSH {a b : Nat} : (bS a = bH b) = False := by
  apply propext; constructor
  · intro z; exact hs_ne (Bx.q.inj z).1.symm
  · exact False.elim
theorem bHH {a b : Nat} : (bH a = bH b) = (a = b) := by
  apply propext; constructor
  · intro z; exact (Bx.q.inj z).2
  · intro z; rw [z]
theorem bSS {a b : Nat} : (bS a = bS b) = (a = b) := by
  apply propext; constructor
  · intro z; exact (Bx.q.inj z).2
  · intro z; rw [z]
def layW (sl : Bx → Nat) (s0 s1 s2 : Nat) : Wo → List Or
  | .wipe b => [.clean (sl b)]
  | .tell b => [.fetch s0 (sl b), .tell s0, .wipe s0]
  | .take b w => [.take s0 w, .lay (sl b) s0, .wipe s0]
  | .ask b => [.ask s0, .lay (sl b) s0, .wipe s0]
  | .number b n => [.number s0 n, .lay (sl b) s0, .wipe s0]
  | .copy b c => [.fetch s1 (sl c), .copy s0 s1, .lay (sl b) s0, .wipe s0, .wipe s1]
  | .opn b c => [.fetch s1 (sl c), .opn s0 s1, .lay (sl b) s0, .wipe s0, .wipe s1]
  | .mix b c d => [.fetch s1 (sl c), .fetch s2 (sl d), .mix s0 s1 s2, .lay (sl b) s0, .wipe s0, .wipe s1, .wipe s2]
theorem formB_ext {ms M : List Fo} {wt : Nat} {as : List Nat} {W : Wo} (h : (formB ms wt as W).1 <+: M) : formB M wt as W = (M, (formB ms wt as W).2) := by
  cases W <;> first
    | rfl
    | (simp only [formB] at h ⊢; rw [made_ext h])
def putS (g : Nat → Nat) (s : Nat) : Option Nat → Nat → Nat
  | none => g
  | some n => fun x => if x = s then n else g x
theorem lay_eff (m : As) (sl : Bx → Nat) {s0 s1 s2 : Nat} (h1 : ¬ s0 = s1) (h2 : ¬ s0 = s2) (h3 : ¬ s1 = s2) (W : Wo) :
    (runA m ((layW sl s0 s1 s2 W).map asW)).ms = (formB m.ms m.wt ((askB W).map fun b => m.g (bS (sl b))) W).1 ∧
    (runA m ((layW sl s0 s1 s2 W).map asW)).wt = (formB m.ms m.wt ((askB W).map fun b => m.g (bS (sl b))) W).2.1 ∧
    (runA m ((layW sl s0 s1 s2 W).map asW)).X = (if isO W = true then m.X ++ [outP (W, (askB W).map fun b => m.g (bS (sl b)), (formB m.ms m.wt ((askB W).map fun b => m.g (bS (sl b))) W).2.2)] else m.X) ∧
    (∀ s, (runA m ((layW sl s0 s1 s2 W).map asW)).g (bS s) = putS (fun s => m.g (bS s)) (sl (boxW W)) (formB m.ms m.wt ((askB W).map fun b => m.g (bS (sl b))) W).2.2 s) ∧
    ∀ h, (runA m ((layW sl s0 s1 s2 W).map asW)).g (bH h) = m.g (bH h) ∨ (runA m ((layW sl s0 s1 s2 W).map asW)).g (bH h) = 0 := by
  have h1' : ¬ s1 = s0 := fun z => h1 z.symm
  have h2' : ¬ s2 = s0 := fun z => h2 z.symm
  have h3' : ¬ s2 = s1 := fun z => h3 z.symm
  have hn : ¬ hnd = slt := hs_ne
  have hn' : ¬ slt = hnd := fun z => hs_ne z.symm
  cases W <;> refine ⟨?_, ?_, ?_, fun s => ?_, fun h => ?_⟩ <;>
    simp [runA, layW, stepA, asW, formB, askB, setG, boxW, isO, putS, outP, kdW, restW, h1, h2, h3, h1', h2', h3', hn, hn'] <;>
    (try (split <;> simp_all)) <;> (try (split <;> simp_all)) <;> (try (split <;> simp_all)) <;> (try omega)
/-- laid, word by word -/
inductive Laid (Dom : List Bx) (sl : Bx → Nat) (hh : Nat) : List Wo → List Or → Prop
  | nil : Laid Dom sl hh [] []
  | snoc {ws : List Wo} {os ex : List Or} {W : Wo} {s0 s1 s2 : Nat} : Laid Dom sl hh ws os → (∀ b ∈ boxW W :: askB W, b ∈ Dom) → ¬ s0 = s1 → ¬ s0 = s2 → ¬ s1 = s2 → s0 < hh → s1 < hh → s2 < hh → (ex = [] ∨ ∃ h n, ex = [.number h n] ∧ h < hh ∧ (0 : Int) ≤ n ∧ n < 10000) → Laid Dom sl hh (ws ++ [W]) (os ++ (layW sl s0 s1 s2 W ++ ex))
def a0 : As := ⟨[.number 0], fun _ => 0, 0, []⟩
def aM (M : List Fo) : As := ⟨M, fun _ => 0, 0, []⟩
theorem a0_ok : AOk a0 := ⟨⟨⟨[], rfl⟩, fun i m h => by
  match i, h with
  | 0, h => cases h; trivial
  | i + 1, h => cases h⟩, fun _ => by show 0 < 1; decide⟩
theorem stepA_other {m : As} {W : Wo} {b : Bx} (h : ¬ b = boxW W) : (stepA m W).g b = m.g b := by
  show setG m.g (boxW W) _ b = m.g b
  cases (formB m.ms m.wt ((askB W).map m.g) W).2.2 with
  | none => rfl
  | some n => show (if b = boxW W then n else m.g b) = m.g b; rw [if_neg h]
/-- the machine beside the row, by the table M -/
structure Sim (Dom : List Bx) (sl : Bx → Nat) (M : List Fo) (m r : As) : Prop where
  ms : r.ms = M
  g : ∀ b ∈ Dom, r.g b = m.g (bS (sl b))
  wt : r.wt = m.wt
  X : r.X = m.X
/-- hands and other slots hold nothing -/
structure HsZ (Dom : List Bx) (sl : Bx → Nat) (m : As) : Prop where
  h : ∀ h, kk m.ms (m.g (bH h)) = false
  s : ∀ s, (∀ b ∈ Dom, ¬ sl b = s) → m.g (bS s) = 0
theorem sim_step {Dom : List Bx} {sl : Bx → Nat} (inj : ∀ b ∈ Dom, ∀ c ∈ Dom, sl b = sl c → b = c) {M : List Fo} {m r : As} (ok : AOk m) (S : Sim Dom sl M m r) (Z : HsZ Dom sl m) {W : Wo} {s0 s1 s2 : Nat} {ex : List Or}
    (dm : ∀ b ∈ boxW W :: askB W, b ∈ Dom) (h1 : ¬ s0 = s1) (h2 : ¬ s0 = s2) (h3 : ¬ s1 = s2) (he : ex = [] ∨ ∃ h n, ex = [.number h n]) (pre : (runA m ((layW sl s0 s1 s2 W ++ ex).map asW)).ms <+: M) :
    Sim Dom sl M (runA m ((layW sl s0 s1 s2 W ++ ex).map asW)) (stepA r W) ∧ HsZ Dom sl (runA m ((layW sl s0 s1 s2 W ++ ex).map asW)) := by
  rw [List.map_append, runA_app] at pre ⊢
  obtain ⟨e1, e2, e3, e4, e5⟩ := lay_eff m sl h1 h2 h3 W
  have ok2 := ok.run ((layW sl s0 s1 s2 W).map asW)
  have p2 := pre_run ok ((layW sl s0 s1 s2 W).map asW)
  have ok3 := ok2.run (ex.map asW)
  have p3 := pre_run ok2 (ex.map asW)
  have as_eq : (askB W).map r.g = (askB W).map fun b => m.g (bS (sl b)) := List.map_congr_left fun b hb => S.g b (dm b (List.mem_cons_of_mem _ hb))
  generalize hm2 : runA m ((layW sl s0 s1 s2 W).map asW) = m2 at *
  have pM : (formB m.ms m.wt ((askB W).map fun b => m.g (bS (sl b))) W).1 <+: M := by rw [← e1]; exact p3.trans pre
  have eM := formB_ext pM
  have main : Sim Dom sl M m2 (stepA r W) ∧ HsZ Dom sl m2 := by
    refine ⟨⟨?_, fun b hb => ?_, ?_, ?_⟩, fun h => ?_, fun s hs => ?_⟩
    · show (formB r.ms r.wt ((askB W).map r.g) W).1 = M
      rw [S.ms, S.wt, as_eq, eM]
    · show setG r.g (boxW W) (formB r.ms r.wt ((askB W).map r.g) W).2.2 b = _
      rw [S.ms, S.wt, as_eq, eM, e4]
      cases (formB m.ms m.wt ((askB W).map fun b => m.g (bS (sl b))) W).2.2 with
      | none => exact S.g b hb
      | some n =>
        show (if b = boxW W then n else r.g b) = if sl b = sl (boxW W) then n else m.g (bS (sl b))
        by_cases e : b = boxW W
        · rw [if_pos e, if_pos (by rw [e])]
        · rw [if_neg e, if_neg fun z => e (inj b hb _ (dm _ List.mem_cons_self) z)]; exact S.g b hb
    · show (formB r.ms r.wt ((askB W).map r.g) W).2.1 = _
      rw [S.ms, S.wt, as_eq, eM, e2]
    · show (if isO W = true then r.X ++ [outP (W, (askB W).map r.g, (formB r.ms r.wt ((askB W).map r.g) W).2.2)] else r.X) = _
      rw [S.ms, S.wt, as_eq, eM, e3, S.X]
    · rcases e5 h with e | e
      · rw [e, kk_pre p2 (ok.v _)]; exact Z.h h
      · rw [e]; exact kk_zero ok2.w
    · rw [e4]
      cases (formB m.ms m.wt ((askB W).map fun b => m.g (bS (sl b))) W).2.2 with
      | none => exact Z.s s hs
      | some n =>
        show (if s = sl (boxW W) then n else m.g (bS s)) = 0
        rw [if_neg fun z => hs (boxW W) (dm _ List.mem_cons_self) z.symm]; exact Z.s s hs
  obtain ⟨S2, Z2⟩ := main
  rcases he with rfl | ⟨h, n, rfl⟩
  · exact ⟨S2, Z2⟩
  · refine ⟨⟨S2.ms, fun b hb => ?_, S2.wt, S2.X⟩, fun x => ?_, fun s hs => ?_⟩
    · rw [S2.g b hb]
      exact (stepA_other (m := m2) (W := asW (.number h n)) (b := bS (sl b)) fun z => by rw [show boxW (asW (.number h n)) = bH h from rfl, bSH] at z; exact z).symm
    · show kk (made m2.ms (.number n)).1 (if bH x = bH h then (made m2.ms (.number n)).2 else m2.g (bH x)) = false
      split
      · exact kk_made ok2.w trivial
      · rw [kk_pre (made_pre _ _) (ok2.v _)]; exact Z2.h x
    · exact (stepA_other (m := m2) (W := asW (.number h n)) (b := bS s) fun z => by rw [show boxW (asW (.number h n)) = bH h from rfl, bSH] at z; exact z).trans (Z2.s s hs)
theorem laid_sim {Dom : List Bx} {sl : Bx → Nat} {hh : Nat} (inj : ∀ b ∈ Dom, ∀ c ∈ Dom, sl b = sl c → b = c) {ws : List Wo} {os : List Or} (L : Laid Dom sl hh ws os) : HsZ Dom sl (runA a0 (os.map asW)) ∧ ∀ M, (runA a0 (os.map asW)).ms <+: M → Sim Dom sl M (runA a0 (os.map asW)) (runA (aM M) ws) := by
  induction L with
  | nil => exact ⟨⟨fun _ => rfl, fun _ _ => rfl⟩, fun M _ => ⟨rfl, fun _ _ => rfl, rfl, rfl⟩⟩
  | @snoc ws os ex W s0 s1 s2 L dm h1 h2 h3 _ _ _ he ih =>
    obtain ⟨Z, S⟩ := ih
    have ok := a0_ok.run (os.map asW)
    have he' : ex = [] ∨ ∃ h n, ex = [.number h n] := he.imp id fun ⟨h, n, e, _⟩ => ⟨h, n, e⟩
    have key : ∀ M, (runA (runA a0 (os.map asW)) ((layW sl s0 s1 s2 W ++ ex).map asW)).ms <+: M → Sim Dom sl M (runA (runA a0 (os.map asW)) ((layW sl s0 s1 s2 W ++ ex).map asW)) (stepA (runA (aM M) ws) W) ∧ HsZ Dom sl (runA (runA a0 (os.map asW)) ((layW sl s0 s1 s2 W ++ ex).map asW)) := fun M p =>
      sim_step inj ok (S M ((pre_run ok _).trans p)) Z dm h1 h2 h3 he' p
    rw [List.map_append, runA_app]
    refine ⟨(key _ (List.prefix_refl _)).2, fun M p => ?_⟩
    rw [runA_app]
    exact (key M p).1
/-! what the codes do -/
theorem keys_or {ws : List Wo} {P : Bx → Prop} (h : ∀ W ∈ ws, P (boxW W)) : ∀ {t : Ts}, (∀ x ∈ t.dv, P x.1) → ∀ x ∈ (runT t ws).dv, P x.1 := by
  induction ws with
  | nil => intro t ht; exact ht
  | cons W r ih =>
    intro t ht
    refine ih (fun V hV => h V (List.mem_cons_of_mem _ hV)) (t := stepT t W) fun x hx => ?_
    have hx : x ∈ ptO t.dv (boxW W) (formB t.ms t.wt ((askB W).map (gt t.dv)) W).2.2 := hx
    cases e : (formB t.ms t.wt ((askB W).map (gt t.dv)) W).2.2 with
    | none => rw [e] at hx; exact ht x hx
    | some n =>
      rw [e] at hx
      rcases ptB_mem hx with rfl | hx
      · exact h W List.mem_cons_self
      · exact ht x hx
theorem ptB_keys {dv : List (Bx × Nat)} {b : Bx} {n : Nat} (h : (dv.map (·.1)).Nodup) : ((ptB dv b n).map (·.1)).Nodup := by
  unfold ptB
  split
  · rw [List.map_map]
    rw [show dv.map ((fun x => x.1) ∘ fun x => if x.1 = b then (x.1, n) else x) = dv.map (·.1) from List.map_congr_left fun x _ => by show (if x.1 = b then (x.1, n) else x).1 = x.1; split <;> rfl]
    exact h
  · rename_i e
    rw [List.map_append]
    refine List.nodup_append.mpr ⟨h, by simp, fun x hx y hy => ?_⟩
    rw [List.mem_singleton.mp hy]
    intro z
    obtain ⟨p, hp, rfl⟩ := List.mem_map.mp hx
    exact e (List.any_eq_true.mpr ⟨p, hp, decide_eq_true z⟩)
theorem keys_nd : ∀ {ws : List Wo} {t : Ts}, (t.dv.map (·.1)).Nodup → ((runT t ws).dv.map (·.1)).Nodup
  | [], _, h => h
  | W :: r, t, h => by
    refine keys_nd (ws := r) (t := stepT t W) ?_
    show ((ptO t.dv (boxW W) _).map (·.1)).Nodup
    cases (formB t.ms t.wt ((askB W).map (gt t.dv)) W).2.2 with
    | none => exact h
    | some n => exact ptB_keys h
theorem gtO_nd : ∀ {dv : List (Bx × Nat)}, (dv.map (·.1)).Nodup → ∀ {x : Bx × Nat}, x ∈ dv → gtO dv x.1 = some x.2
  | [], _, _, h => by cases h
  | y :: r, nd, x, h => by
    rw [List.map_cons, List.nodup_cons] at nd
    rw [gtO_cons]
    rcases List.mem_cons.mp h with rfl | h
    · rw [if_pos rfl]
    · rw [if_neg fun z => nd.1 (List.mem_map.mpr ⟨x, h, z.symm⟩)]
      exact gtO_nd nd.2 h
def IsHS (b : Bx) : Prop := (∃ h, b = bH h) ∨ ∃ s, b = bS s
theorem asW_hs (o : Or) : IsHS (boxW (asW o)) := by
  cases o <;> first | exact .inl ⟨_, rfl⟩ | exact .inr ⟨_, rfl⟩
theorem mach_abs (os : List Or) : absT (mach os) = runA a0 (os.map asW) := abs_run _ _
theorem beside_abs (os : List Or) (ws : List Wo) : absT (beside os ws) = runA (aM (runA a0 (os.map asW)).ms) ws := by
  have h : absT (beside os ws) = runA (absT ⟨(mach os).ms, [], 0, []⟩) ws := abs_run _ _
  rw [h, ← mach_abs]; rfl
theorem holds_true {ws : List Wo} {os : List Or} (hh : ∀ h, kA (runA a0 (os.map asW)) (bH h) = false) (hs : ∀ s, kA (runA a0 (os.map asW)) (bS s) = false) (hX : (runA (aM (runA a0 (os.map asW)).ms) ws).X = (runA a0 (os.map asW)).X) (st : ∀ o ∈ os, StrW (asW o)) : holdsB ws os = true := by
  have e := mach_abs os
  have f := beside_abs os ws
  have k1 : anyK (mach os).ms (mach os).dv = false := by
    unfold anyK
    rw [List.any_eq_false]
    intro x hx
    have nd : ((mach os).dv.map (·.1)).Nodup := keys_nd (t := ⟨[.number 0], [], 0, []⟩) List.nodup_nil
    have hv : gt (mach os).dv x.1 = x.2 := by unfold gt; rw [gtO_nd nd hx]; rfl
    have hk : kA (absT (mach os)) x.1 = false := by
      rw [e]
      rcases keys_or (ws := os.map asW) (P := IsHS) (fun W hW => by obtain ⟨o, _, rfl⟩ := List.mem_map.mp hW; exact asW_hs o) (t := ⟨[.number 0], [], 0, []⟩) (by simp) x hx with ⟨h, z⟩ | ⟨s, z⟩
      · rw [z]; exact hh h
      · rw [z]; exact hs s
    have hk : kk (mach os).ms (gt (mach os).dv x.1) = false := hk
    rw [hv] at hk
    show ¬ kk (mach os).ms x.2 = true
    rw [hk]; exact Bool.false_ne_true
  have x1 : (outs (mach os).ps).map outP = (runA a0 (os.map asW)).X := congrArg As.X e
  have x2 : (outs (beside os ws).ps).map outP = (runA (aM (runA a0 (os.map asW)).ms) ws).X := congrArg As.X f
  unfold holdsB
  rw [k1, x2, hX, ← x1]
  have hs := outs_shaped (ps := (mach os).ps) (runT_str rfl fun W hW => by obtain ⟨o, ho, rfl⟩ := List.mem_map.mp hW; exact st o ho)
  rw [SeqAt.eqv_refl _ (SeqAt.canLay_of_shaped hs)]; rfl
/-- fewer takes, asks and tells -/
theorem outs_cnt {t : Ts} : ∀ {ws : List Wo}, (outs (runT t ws).ps).length = (outs t.ps).length + (ws.filter isO).length := by
  intro ws
  induction ws generalizing t with
  | nil => rfl
  | cons W r ih =>
    show (outs (runT (stepT t W) r).ps).length = _
    rw [ih]
    show (outs (t.ps ++ [_])).length + _ = _
    rw [outs_snoc, List.filter_cons]
    cases isO W <;> simp <;> omega
def cnt (os : List Or) : Nat := ((os.map asW).filter isO).length
theorem eqv_len {xs ys : List PyData} (h : PyData.eqv (.list xs) (.list ys) = true) : xs.length = ys.length := by
  have h : PyData.eqvAll xs ys = true := by rw [PyData.eqv] at h; exact h
  rw [← SeqAt.eqvAll_eq] at h
  exact eq_of_beq (Bool.and_eq_true_iff.mp h).2
theorem holds_len {ws : List Wo} {os : List Or} (h : holdsB ws os = true) : cnt os = (ws.filter isO).length := by
  unfold holdsB at h
  have h2 := eqv_len (Bool.and_eq_true_iff.mp h).2
  rw [List.length_map, List.length_map] at h2
  have h3 : (outs (mach os).ps).length = 0 + cnt os := outs_cnt
  have h4 : (outs (beside os ws).ps).length = 0 + (ws.filter isO).length := outs_cnt
  omega
/-! cleans of slots that nothing lies in -/
inductive Ins (Fr : Nat → Prop) : List Or → List Or → Prop
  | nil : Ins Fr [] []
  | keep {a b : List Or} (o : Or) : Ins Fr a b → Ins Fr (o :: a) (o :: b)
  | put {a b : List Or} {s : Nat} : Fr s → Ins Fr a b → Ins Fr a (.clean s :: b)
theorem Ins.refl {Fr : Nat → Prop} : ∀ a : List Or, Ins Fr a a
  | [] => .nil
  | o :: r => .keep o (Ins.refl r)
theorem Ins.ins {Fr : Nat → Prop} {s : Nat} (fs : Fr s) {a b : List Or} (h : Ins Fr a b) : ∀ i : Nat, Ins Fr a (b.take i ++ .clean s :: b.drop i) := by
  induction h with
  | nil => intro i; rw [List.take_nil, List.drop_nil]; exact .put fs .nil
  | @keep a b o h ih =>
    intro i
    cases i with
    | zero => exact .put fs (.keep o h)
    | succ i => exact .keep o (ih i)
  | @put a b s' f' h ih =>
    intro i
    cases i with
    | zero => exact .put fs (.put f' h)
    | succ i => exact .put f' (ih i)
theorem clean_id {m : As} {s : Nat} (h : m.g (bS s) = 0) : stepA m (asW (.clean s)) = m := by
  obtain ⟨ms, g, wt, X⟩ := m
  show (⟨ms, fun c => if c = bS s then 0 else g c, wt, X⟩ : As) = ⟨ms, g, wt, X⟩
  congr 1
  funext c
  split
  · rename_i e; rw [e]; exact h.symm
  · rfl
theorem ins_run {Fr : Nat → Prop} {a b : List Or} (h : Ins Fr a b) : ∀ {m : As}, (∀ s, Fr s → m.g (bS s) = 0) → (∀ o ∈ a, ∀ s, Fr s → ¬ bS s = boxW (asW o)) → runA m (b.map asW) = runA m (a.map asW) := by
  induction h with
  | nil => intro m _ _; rfl
  | @keep a b o h ih =>
    intro m hm ho
    exact ih (m := stepA m (asW o)) (fun s hs => by rw [stepA_other (ho o List.mem_cons_self s hs)]; exact hm s hs) fun o' h' => ho o' (List.mem_cons_of_mem _ h')
  | @put a b s fs h ih =>
    intro m hm ho
    show runA (stepA m (asW (.clean s))) (b.map asW) = _
    rw [clean_id (hm s fs)]
    exact ih hm ho
/-- hands wiped at the end -/
theorem wipe_run : ∀ {hs : List Nat} {m : As}, (runA m (hs.map fun h => asW (.wipe h))).ms = m.ms ∧ (runA m (hs.map fun h => asW (.wipe h))).X = m.X ∧ (∀ s, (runA m (hs.map fun h => asW (.wipe h))).g (bS s) = m.g (bS s)) ∧ ∀ h, (runA m (hs.map fun h => asW (.wipe h))).g (bH h) = m.g (bH h) ∨ (runA m (hs.map fun h => asW (.wipe h))).g (bH h) = 0
  | [], m => ⟨rfl, rfl, fun _ => rfl, fun _ => .inl rfl⟩
  | x :: r, m => by
    obtain ⟨h1, h2, h3, h4⟩ := wipe_run (hs := r) (m := stepA m (asW (.wipe x)))
    refine ⟨h1, h2, fun s => (h3 s).trans ?_, fun h => ?_⟩
    · exact stepA_other (m := m) (W := asW (.wipe x)) (b := bS s) fun z => by rw [show boxW (asW (.wipe x)) = bH x from rfl, bSH] at z; exact z
    · rcases h4 h with e | e
      · have : (stepA m (asW (.wipe x))).g (bH h) = if bH h = bH x then 0 else m.g (bH h) := rfl
        rw [this] at e
        by_cases z : bH h = bH x
        · rw [if_pos z] at e; exact .inr e
        · rw [if_neg z] at e; exact .inl e
      · exact .inr e
end K48

set_option maxHeartbeats 4000000
namespace K48
open PySem PySem.Spec PyProof.Rows L2 Kk
/-! forms as trees: what a number of a table stands for -/
inductive FT
  | number (n : Int)
  | take (n : Nat)
  | ask (n : Nat)
  | mix (a b : FT)
  | opn (a : FT)
  deriving DecidableEq
def trF (ts : List FT) : Fo → FT
  | .number n => .number n
  | .take n => .take n
  | .ask n => .ask n
  | .mix i j => .mix (ts.getD i (.number 0)) (ts.getD j (.number 0))
  | .opn i => .opn (ts.getD i (.number 0))
def trs (ms : List Fo) : List FT := ms.foldl (fun ts m => ts ++ [trF ts m]) []
theorem trs_app {ms : List Fo} {m : Fo} : trs (ms ++ [m]) = trs ms ++ [trF (trs ms) m] := by
  unfold trs; rw [List.foldl_append]; rfl
theorem rev_ind {α : Type} {P : List α → Prop} (h0 : P []) (h1 : ∀ l a, P l → P (l ++ [a])) : ∀ l, P l := by
  have : ∀ (n : Nat) (l : List α), l.length = n → P l := by
    intro n
    induction n with
    | zero => intro l h; rw [List.length_eq_zero_iff.mp h]; exact h0
    | succ n ih =>
      intro l h
      rcases List.eq_nil_or_concat l with e | ⟨r, a, e⟩
      · rw [e] at h; cases h
      · rw [List.concat_eq_append] at e
        rw [e, List.length_append, List.length_singleton] at h
        rw [e]; exact h1 r a (ih r (by omega))
  exact fun l => this _ l rfl
theorem trs_len (ms : List Fo) : (trs ms).length = ms.length := by
  refine rev_ind (P := fun ms => (trs ms).length = ms.length) rfl (fun l a h => ?_) ms
  rw [trs_app, List.length_append, List.length_append, h]; rfl
def tr (ms : List Fo) (i : Nat) : FT := (trs ms).getD i (.number 0)
theorem tr_app {ms : List Fo} {m : Fo} {i : Nat} (h : i < ms.length) : tr (ms ++ [m]) i = tr ms i := by
  unfold tr
  rw [trs_app, List.getD_eq_getElem?_getD, List.getD_eq_getElem?_getD, List.getElem?_append_left (by rw [trs_len]; exact h)]
theorem tr_pre {ms M : List Fo} {i : Nat} (h : ms <+: M) (l : i < ms.length) : tr M i = tr ms i := by
  obtain ⟨r, rfl⟩ := h
  have : ∀ (r ms : List Fo), i < ms.length → tr (ms ++ r) i = tr ms i := by
    intro r
    induction r with
    | nil => intro ms _; rw [List.append_nil]
    | cons x r ih =>
      intro ms l
      have h1 := ih (ms ++ [x]) (by rw [List.length_append]; omega)
      rw [List.append_assoc] at h1
      exact h1.trans (tr_app l)
  exact this r ms l
theorem trF_pre {ms M : List Fo} {m : Fo} (h : ms <+: M) (o : MkOk ms.length m) : trF (trs M) m = trF (trs ms) m := by
  cases m with
  | mix i j =>
    show FT.mix (tr M i) (tr M j) = .mix (tr ms i) (tr ms j)
    rw [tr_pre h o.1, tr_pre h o.2]
  | opn i =>
    show FT.opn (tr M i) = .opn (tr ms i)
    rw [tr_pre h o]
  | _ => rfl
theorem tr_at {ms : List Fo} (w : WF ms) {i : Nat} {m : Fo} (h : ms[i]? = some m) : tr ms i = trF (trs ms) m := by
  have l : i < ms.length := (List.getElem?_eq_some_iff.mp h).1
  have o := w.2 i m h
  have p : ms.take i ++ [m] <+: ms := by
    have : ms.take (i + 1) <+: ms := List.take_prefix _ _
    rw [List.take_add_one, h] at this
    exact this
  have li : (ms.take i).length = i := by rw [List.length_take]; omega
  rw [tr_pre p (by rw [List.length_append, li]; simp)]
  have : tr (ms.take i ++ [m]) i = trF (trs (ms.take i)) m := by
    unfold tr
    rw [trs_app, List.getD_eq_getElem?_getD, List.getElem?_append_right (by rw [trs_len, li]; exact Nat.le_refl _), trs_len, li, Nat.sub_self]; rfl
  rw [this]
  exact (trF_pre (List.take_prefix _ _) (by rw [li]; exact o)).symm
theorem tr_zero {ms : List Fo} (w : WF ms) : tr ms 0 = .number 0 := by
  obtain ⟨⟨r, e⟩, _⟩ := id w
  rw [tr_at w (m := .number 0) (by rw [e]; rfl)]; rfl
theorem tr_made {ms : List Fo} {m : Fo} (w : WF ms) (o : MkOk ms.length m) : tr (made ms m).1 (made ms m).2 = trF (trs ms) m := by
  have e := (ixG_lt (made_in ms m)).2.2
  rw [Nat.sub_zero] at e
  rw [tr_at (w.made o) e]
  exact trF_pre (made_pre ms m) o
theorem made_nd {ms : List Fo} {m : Fo} (h : ms.Nodup) : (made ms m).1.Nodup := by
  unfold made
  cases e : ixG 0 ms m with
  | some i => exact h
  | none =>
    refine List.nodup_append.mpr ⟨h, by simp, fun a ha b hb => ?_⟩
    rw [List.mem_singleton.mp hb]
    intro z
    rw [z] at ha
    have : ∀ (ms : List Fo) (k : Nat), m ∈ ms → ixG k ms m ≠ none := by
      intro ms
      induction ms with
      | nil => intro k h; cases h
      | cons x r ih =>
        intro k h
        unfold ixG
        by_cases q : x = m
        · rw [if_pos q]; exact fun z => by cases z
        · rw [if_neg q]
          rcases List.mem_cons.mp h with rfl | h
          · exact absurd rfl q
          · exact ih _ h
    exact this ms 0 ha e
/-- two numbers of a table with no form twice stand for two trees -/
theorem tr_inj {ms : List Fo} (w : WF ms) (nd : ms.Nodup) : ∀ {i j : Nat}, i < ms.length → j < ms.length → tr ms i = tr ms j → i = j := by
  have key : ∀ (n i j : Nat), i < n → i < ms.length → j < ms.length → tr ms i = tr ms j → i = j := by
    intro n
    induction n with
    | zero => intro i j h; omega
    | succ n ih =>
      intro i j hn hi hj e
      obtain ⟨m, hm⟩ : ∃ m, ms[i]? = some m := ⟨_, List.getElem?_eq_getElem hi⟩
      obtain ⟨m', hm'⟩ : ∃ m, ms[j]? = some m := ⟨_, List.getElem?_eq_getElem hj⟩
      rw [tr_at w hm, tr_at w hm'] at e
      have o := w.2 i m hm
      have o' := w.2 j m' hm'
      have mm : m = m' := by
        cases m with
        | number n1 => cases m' <;> first | (cases e; rfl) | cases e
        | take n1 => cases m' <;> first | (cases e; rfl) | cases e
        | ask n1 => cases m' <;> first | (cases e; rfl) | cases e
        | mix a b =>
          cases m' with
          | mix a' b' =>
            have e1 : tr ms a = tr ms a' := (FT.mix.inj e).1
            have e2 : tr ms b = tr ms b' := (FT.mix.inj e).2
            have oa : a < i ∧ b < i := o
            have oa' : a' < j ∧ b' < j := o'
            rw [ih a a' (by omega) (by omega) (by omega) e1, ih b b' (by omega) (by omega) (by omega) e2]
          | _ => cases e
        | opn a =>
          cases m' with
          | opn a' =>
            have e1 : tr ms a = tr ms a' := FT.opn.inj e
            have oa : a < i := o
            have oa' : a' < j := o'
            rw [ih a a' (by omega) (by omega) (by omega) e1]
          | _ => cases e
      subst mm
      rw [List.getElem?_eq_getElem hi] at hm
      rw [List.getElem?_eq_getElem hj] at hm'
      exact (List.getElem_inj nd).mp ((Option.some.inj hm).trans (Option.some.inj hm').symm)
  exact fun {i j} hi hj e => key (i + 1) i j (by omega) hi hj e
/-! runs on trees -/
def tW (wt : Nat) (as : List FT) : Wo → Nat × Option FT
  | .wipe _ => (wt, some (.number 0))
  | .copy _ _ => (wt, some (as.getD 0 (.number 0)))
  | .number _ n => (wt, some (.number n))
  | .take _ _ => (wt + 1, some (.take (wt + 1)))
  | .ask _ => (wt + 1, some (.ask (wt + 1)))
  | .mix _ _ _ => (wt, some (.mix (as.getD 0 (.number 0)) (as.getD 1 (.number 0))))
  | .opn _ _ => (wt, some (.opn (as.getD 0 (.number 0))))
  | .tell _ => (wt, none)
structure Tt where
  g : Bx → FT
  wt : Nat
  X : List (Str × List PyData × List FT)
def setT (g : Bx → FT) (b : Bx) : Option FT → Bx → FT
  | none => g
  | some t => fun c => if c = b then t else g c
def stepTt (t : Tt) (W : Wo) : Tt := ⟨setT t.g (boxW W) (tW t.wt ((askB W).map t.g) W).2, (tW t.wt ((askB W).map t.g) W).1, if isO W = true then t.X ++ [(kdW W, restW W, (askB W).map t.g)] else t.X⟩
def runTt (t : Tt) (ws : List Wo) : Tt := ws.foldl stepTt t
def t0 : Tt := ⟨fun _ => .number 0, 0, []⟩
theorem runTt_app (t : Tt) (u v : List Wo) : runTt t (u ++ v) = runTt (runTt t u) v := by unfold runTt; rw [List.foldl_append]
/-- an abstract state's outer words, by trees -/
structure TrS (a : As) (t : Tt) : Prop where
  ok : AOk a
  nd : a.ms.Nodup
  g : ∀ b, tr a.ms (a.g b) = t.g b
  wt : a.wt = t.wt
  X : ∃ xs : List (Str × List PyData × List Nat), a.X = xs.map (fun x => PyData.tuple [.str x.1, .tuple x.2.1, .tuple (x.2.2.map fun n : Nat => .int n)]) ∧ (∀ x ∈ xs, ∀ n ∈ x.2.2, n < a.ms.length) ∧ t.X = xs.map fun x => (x.1, x.2.1, x.2.2.map (tr a.ms))
theorem getD_map {α β : Type} {f : α → β} {l : List α} {i : Nat} {d : α} {e : β} (h : f d = e) : (l.map f).getD i e = f (l.getD i d) := by
  rw [List.getD_eq_getElem?_getD, List.getD_eq_getElem?_getD, List.getElem?_map]
  cases l[i]? with
  | none => exact h.symm
  | some x => rfl
theorem TrS.step {a : As} {t : Tt} (h : TrS a t) (W : Wo) : TrS (stepA a W) (stepTt t W) := by
  have ok := h.ok.step W
  obtain ⟨f1, f2, f3, f4⟩ := form_ok h.ok W
  have e1 : (stepA a W).ms = (formB a.ms a.wt ((askB W).map a.g) W).1 := rfl
  have am : (askB W).map t.g = ((askB W).map a.g).map (tr a.ms) := by
    rw [List.map_map]; exact List.map_congr_left fun b _ => (h.g b).symm
  have lt : ∀ n ∈ (askB W).map a.g, n < a.ms.length := fun n hn => by
    obtain ⟨b, _, rfl⟩ := List.mem_map.mp hn; exact h.ok.v b
  have z0 := tr_zero h.ok.w
  have gd : ∀ i, ((askB W).map t.g).getD i (.number 0) = tr a.ms (((askB W).map a.g).getD i 0) := fun i => by rw [am]; exact getD_map z0
  have gl : ∀ i, ((askB W).map a.g).getD i 0 < a.ms.length := fun i => by
    rw [List.getD_eq_getElem?_getD]
    cases e : ((askB W).map a.g)[i]? with
    | none => exact h.ok.p
    | some x => exact lt x (List.mem_of_getElem? e)
  have nd2 : (stepA a W).ms.Nodup := by
    rw [e1]
    cases W <;> first | exact h.nd | exact made_nd h.nd
  have tm : ∀ m, MkOk a.ms.length m → tr (made a.ms m).1 (made a.ms m).2 = trF (trs a.ms) m := fun m o => tr_made h.ok.w o
  have put : (match (formB a.ms a.wt ((askB W).map a.g) W).2.2 with | some n => some (tr (stepA a W).ms n) | none => none) = (tW t.wt ((askB W).map t.g) W).2 := by
    rw [e1]
    cases W with
    | wipe b => show some (tr a.ms 0) = some _; rw [z0]
    | copy b c => show some (tr a.ms _) = some _; rw [gd]
    | tell b => rfl
    | number b n => show some (tr (made a.ms (.number n)).1 (made a.ms (.number n)).2) = some _; rw [tm (.number n) trivial]; rfl
    | take b s => show some (tr (made a.ms (.take (a.wt + 1))).1 (made a.ms (.take (a.wt + 1))).2) = some _; rw [tm (.take (a.wt + 1)) trivial, ← h.wt]; rfl
    | ask b => show some (tr (made a.ms (.ask (a.wt + 1))).1 (made a.ms (.ask (a.wt + 1))).2) = some _; rw [tm (.ask (a.wt + 1)) trivial, ← h.wt]; rfl
    | mix b c d =>
      show some (tr (made a.ms (.mix (((askB (.mix b c d)).map a.g).getD 0 0) (((askB (.mix b c d)).map a.g).getD 1 0))).1 (made a.ms (.mix (((askB (.mix b c d)).map a.g).getD 0 0) (((askB (.mix b c d)).map a.g).getD 1 0))).2) = some (FT.mix (((askB (.mix b c d)).map t.g).getD 0 (.number 0)) (((askB (.mix b c d)).map t.g).getD 1 (.number 0)))
      rw [tm (.mix _ _) ⟨gl 0, gl 1⟩, gd, gd]; rfl
    | opn b c =>
      show some (tr (made a.ms (.opn (((askB (.opn b c)).map a.g).getD 0 0))).1 (made a.ms (.opn (((askB (.opn b c)).map a.g).getD 0 0))).2) = some (FT.opn (((askB (.opn b c)).map t.g).getD 0 (.number 0)))
      rw [tm (.opn _) (gl 0), gd]; rfl
  refine ⟨ok, nd2, fun b => ?_, ?_, ?_⟩
  · show tr (stepA a W).ms (setG a.g (boxW W) (formB a.ms a.wt ((askB W).map a.g) W).2.2 b) = setT t.g (boxW W) (tW t.wt ((askB W).map t.g) W).2 b
    rw [← put]
    cases (formB a.ms a.wt ((askB W).map a.g) W).2.2 with
    | none => show tr _ (a.g b) = t.g b; rw [tr_pre f2 (h.ok.v b), h.g]
    | some n =>
      show tr _ (if b = boxW W then n else a.g b) = if b = boxW W then _ else t.g b
      by_cases q : b = boxW W
      · rw [if_pos q, if_pos q]
      · rw [if_neg q, if_neg q, tr_pre f2 (h.ok.v b), h.g]
  · show (formB a.ms a.wt ((askB W).map a.g) W).2.1 = (tW t.wt ((askB W).map t.g) W).1
    cases W <;> first | exact h.wt | (show a.wt + 1 = t.wt + 1; rw [h.wt])
  · obtain ⟨xs, x1, x2, x3⟩ := h.X
    have mx : ∀ x ∈ xs, x.2.2.map (tr (stepA a W).ms) = x.2.2.map (tr a.ms) := fun x hx => List.map_congr_left fun n hn => tr_pre f2 (x2 x hx n hn)
    have ll := f2.length_le
    by_cases q : isO W = true
    · refine ⟨xs ++ [(kdW W, restW W, (askB W).map a.g)], ?_, fun x hx n hn => ?_, ?_⟩
      · show (if isO W = true then a.X ++ [outP (W, (askB W).map a.g, _)] else a.X) = _
        rw [if_pos q, List.map_append, x1]; rfl
      · rcases List.mem_append.mp hx with m | m
        · exact Nat.lt_of_lt_of_le (x2 x m n hn) ll
        · rw [List.mem_singleton.mp m] at hn; exact Nat.lt_of_lt_of_le (lt n hn) ll
      · show (if isO W = true then t.X ++ [(kdW W, restW W, (askB W).map t.g)] else t.X) = _
        rw [if_pos q, List.map_append, x3, List.map_congr_left (g := fun x => (x.1, x.2.1, x.2.2.map (tr (stepA a W).ms))) fun x hx => by rw [mx x hx], am]
        congr 1
        show [_] = [_]
        rw [List.map_congr_left (f := tr a.ms) (g := tr (stepA a W).ms) fun n hn => (tr_pre f2 (lt n hn)).symm]
    · refine ⟨xs, ?_, fun x hx n hn => Nat.lt_of_lt_of_le (x2 x hx n hn) ll, ?_⟩
      · show (if isO W = true then _ else a.X) = _
        rw [if_neg q, x1]
      · show (if isO W = true then _ else t.X) = _
        rw [if_neg q, x3]
        exact List.map_congr_left fun x hx => by rw [mx x hx]
theorem TrS.run : ∀ {ws : List Wo} {a : As} {t : Tt}, TrS a t → TrS (runA a ws) (runTt t ws)
  | [], _, _, h => h
  | W :: r, _, _, h => TrS.run (ws := r) (h.step W)
theorem trS_aM {M : List Fo} (w : WF M) (nd : M.Nodup) : TrS (aM M) t0 := by
  refine ⟨⟨w, fun _ => ?_⟩, nd, fun b => tr_zero w, rfl, [], rfl, by simp, rfl⟩
  obtain ⟨⟨r, e⟩, _⟩ := w
  show 0 < M.length
  rw [e]; simp
theorem trS_a0 : TrS a0 t0 := trS_aM (M := [.number 0]) a0_ok.w (by simp)
theorem map_inj {α β : Type} {f : α → β} : ∀ {l m : List α}, (∀ a ∈ l, ∀ b ∈ m, f a = f b → a = b) → l.map f = m.map f → l = m
  | [], [], _, _ => rfl
  | [], _ :: _, _, h => by cases h
  | _ :: _, [], _, h => by cases h
  | a :: r, b :: s, i, h => by
    rw [List.map_cons, List.map_cons] at h
    rw [i a List.mem_cons_self b List.mem_cons_self (List.cons.inj h).1, map_inj (fun x hx y hy => i x (List.mem_cons_of_mem _ hx) y (List.mem_cons_of_mem _ hy)) (List.cons.inj h).2]
/-- alike on trees: alike beside one another -/
theorem X_alike {os ws : List Wo} (h : (runTt t0 os).X = (runTt t0 ws).X) : (runA (aM (runA a0 os).ms) ws).X = (runA a0 os).X := by
  have A := trS_a0.run (ws := os)
  have R := (trS_aM A.ok.w A.nd).run (ws := ws)
  obtain ⟨xs, x1, x2, x3⟩ := A.X
  obtain ⟨ys, y1, y2, y3⟩ := R.X
  have pre : (runA a0 os).ms <+: (runA (aM (runA a0 os).ms) ws).ms := pre_run (a := aM (runA a0 os).ms) ⟨A.ok.w, fun _ => A.ok.p⟩ ws
  rw [x3, y3] at h
  rw [x1, y1]
  have ll := pre.length_le
  have nd := R.nd
  have w := R.ok.w
  clear x1 y1 x3 y3 R A
  generalize (runA (aM (runA a0 os).ms) ws).ms = M at *
  generalize (runA a0 os).ms = ms at *
  have e : xs.map (fun x => (x.1, x.2.1, x.2.2.map (tr ms))) = xs.map (fun x => (x.1, x.2.1, x.2.2.map (tr M))) := List.map_congr_left fun x hx => by
    rw [List.map_congr_left (f := tr ms) (g := tr M) fun n hn => (tr_pre pre (x2 x hx n hn)).symm]
  rw [e] at h
  rw [map_inj (f := fun x : Str × List PyData × List Nat => (x.1, x.2.1, x.2.2.map (tr M))) (fun x hx y hy q => ?_) h.symm]
  obtain ⟨q1, q2⟩ := Prod.mk.inj q
  obtain ⟨q2, q3⟩ := Prod.mk.inj q2
  have := map_inj (fun m hm n hn z => tr_inj w nd (y2 x hx m hm) (Nat.lt_of_lt_of_le (x2 y hy n hn) ll) z) q3
  obtain ⟨x1, x2', x3⟩ := x
  obtain ⟨y1, y2', y3⟩ := y
  simp only at q1 q2 this
  rw [q1, q2, this]
end K48

namespace Kk
open PySem PySem.Spec PyProof.Rows L2
/-! dict(a list of pairs) where the keys are tuples; d.setdefault of such a dict -/
abbrev TK (P : Program) (w : World) := tupleKind (mixKind P w)
theorem isk_at {P : Program} {w : World} {h h' : Heap} {k : List L2.Key} {a : Addr} (x : (TK P w).is h k a) (e : ∀ o, h.get? a = some o → h'.get? a = some o) : (TK P w).is h' k a := let ⟨o, i, n, h1, r⟩ := x; ⟨o, i, n, e o h1, r⟩
theorem isk_lt {P : Program} {w : World} {h : Heap} {k : List L2.Key} {a : Addr} (x : (TK P w).is h k a) : a < h.objs.size := let ⟨_, _, _, h1, _⟩ := x; Heap.lt_size h1
def mergedH (acc rest : List (List L2.Key × Addr × Value)) : List (List L2.Key × Addr × Value) := rest.foldl (fun acc q => storedH acc q.1 q.2.1 q.2.2) acc
def mergeT (kvs more : List (List L2.Key × V)) : List (List L2.Key × V) := more.foldl (fun acc kv => putK acc kv.1 kv.2) kvs
theorem mergeT_new : ∀ (more kvs : List (List L2.Key × V)), (kvs.map (·.1) ++ more.map (·.1)).Nodup → mergeT kvs more = kvs ++ more
  | [], kvs, _ => by rw [List.append_nil]; rfl
  | x :: more, kvs, h => by
    have hn : valV kvs x.1 = none := by
      cases e : valV kvs x.1 with
      | none => rfl
      | some v =>
        have h1 : (kvs.any fun kv => decide (kv.1 = x.1)) = true := by rw [valV_any, e]; rfl
        obtain ⟨kv, hm, he⟩ := List.any_eq_true.mp h1
        have he := of_decide_eq_true he
        exact absurd rfl ((List.nodup_append.mp h).2.2 x.1 (by rw [← he]; exact List.mem_map.mpr ⟨kv, hm, rfl⟩) x.1 (by simp))
    show mergeT (putK kvs x.1 x.2) more = _
    rw [putK_new _ hn, mergeT_new more _ (by rw [List.map_append, List.append_assoc]; exact h), List.append_assoc]
    rfl
theorem stH_len (acc : List (List L2.Key × Addr × Value)) (k : List L2.Key) (a : Addr) (v : Value) : (storedH acc k a v).length ≤ acc.length + 1 := by
  unfold storedH
  split
  · rw [List.length_map]; omega
  · rw [List.length_append]; exact Nat.le_refl _
section
variable {prog : Program} {w : World} {A : Around} {E : Value → Shared → Prop}
/-- the walk over the pairs -/
theorem upd_loopT (hu : A.units + 1 < cLine) {R : Result → Shared → Prop} {S I l : Addr} {items : Array Value} {res : Value} (hh : A.handled = none) (hlI : l ≠ I) (hSI : S ≠ I) (hSl : S ≠ l) :
    ∀ (rest : List (List L2.Key × Addr × Value)) (i : Nat) (acc : List (List L2.Key × Addr × Value)) (ix : Int) (t : Tok) (s : Shared), items.size = i + rest.length → acc.length + rest.length ≤ sizeLine →
      (∀ (j : Nat) (q : List L2.Key × Addr × Value), rest[j]? = some q → ∃ (b : Addr), items[i + j]? = some (.ref b) ∧ b ≠ S ∧ b ≠ I ∧ IsTup s.heap b #[.ref q.2.1, q.2.2] ∧ (TK prog w).is s.heap q.1 q.2.1 ∧ q.2.1 ≠ S ∧ q.2.1 ≠ I) →
      (∀ x ∈ acc, x.2.1 ≠ S ∧ x.2.1 ≠ I) →
      s.heap.IsListIter I l i → s.heap.IsList l items → s.heap.DictOfH (TK prog w) S acc →
      (∀ h' tk, h'.DictOfH (TK prog w) S (mergedH acc rest) → (∀ b o, b ≠ S → b ≠ I → s.heap.get? b = some o → h'.get? b = some o) → R (.ok (.ret res)) { s with heap := h', toks := tk }) →
      codeAny (model prog w) A (.builtin "dict.update.loop" ⟨[.ref S, .ref I, .int ix t, res], []⟩) R s
  | [], i, acc, ix, t, s, hsz, hln, ht, hac, hit, hl, hm, hR => by
    refine codeAny_builtin ud_entry ?_
    rw [Around.under_plainId ud_plain _]
    show wpAny _ A.in1 (pyNext (.ref I) >>= _) _ _ s
    refine wpAny_bind (wpAny_pyNext_list_end (A := A.in1) hh hit hl (by first | exact Array.getElem?_eq_none (Nat.le_of_eq hsz) | (simp at hsz; simp; omega)) fun h' he => ?_)
    show wpAny _ A.in1 (Builtin.Dict.addKeywords S [] >>= _) _ _ _
    refine wpAny_bind (wpAny_pure (wpAny_pure ?_))
    have his : ∀ y ∈ acc, (TK prog w).is s.heap y.1 y.2.1 := let ⟨_, _, _, _, _, _, _, z, _⟩ := hm; z
    exact hR h' s.toks (hm.at' (fun o e => he S o hSI e) fun y hy => isk_at (his y hy) fun o e => he _ o (hac y hy).2 e) fun b o _ hb e => he b o hb e
  | q :: rest, i, acc, ix, t, s, hsz, hln, ht, hac, hit, hl, hm, hR => by
    obtain ⟨b, hb, hbS, hbI, htup, hk, hqS, hqI⟩ := ht 0 q rfl
    rw [List.length_cons] at hsz hln
    have his : ∀ y ∈ acc, (TK prog w).is s.heap y.1 y.2.1 := let ⟨_, _, _, _, _, _, _, z, _⟩ := hm; z
    refine codeAny_builtin ud_entry ?_
    rw [Around.under_plainId ud_plain _]
    show wpAny _ A.in1 (pyNext (.ref I) >>= _) _ _ s
    refine wpAny_bind (wpAny_pyNext_list_item (x := .ref b) hit hl (by simpa using hb) fun h1 hit1 hs1 => ?_)
    have ht1 : IsTup h1 b #[.ref q.2.1, q.2.2] := htup.extBut hs1.extBut hbI
    have hk1 : (TK prog w).is h1 q.1 q.2.1 := isk_at hk fun o e => hs1.extBut _ o hqI e
    have hl1 : h1.IsList l items := hl.extBut hs1.extBut hlI
    have hm1 : h1.DictOfH (TK prog w) S acc := hm.at' (fun o e => hs1.extBut S o hSI e) fun y hy => isk_at (his y hy) fun o e => hs1.extBut _ o (hac y hy).2 e
    obtain ⟨o, ho, hc, n, hd⟩ := id ht1
    show wpAny _ A.in1 (holding [Value.ref b] _ >>= _) _ _ _
    refine wpAny_bind (wpAny_holding ?_)
    refine wpAny_bind (wpAny_tryCatch ?_)
    unfold Builtin.Dict.pairItems
    refine wpAny_bind (wpAny_typeOf (T := "tuple") ⟨o, ho, hc⟩ ?_)
    rw [if_pos (by first | decide | rfl | simp)]
    refine wpAny_bind (wpAny_seqItems ho hd (wpAny_pure ?_))
    show wpAny _ A.in1 (holding [Value.ref q.2.1, q.2.2] (dictSet S (.ref q.2.1) q.2.2)) _ _ _
    refine wpAny_holding (wpAny_dictSet_heap (knd := TK prog w) (k := q.1) (tupleKind_room_in1 hu) hk1 hm1 (fun h2 hm2 hs2 => ?_) (by omega))
    refine wpAny_pure ⟨plainId_quiet ud_plain _, upd_loopT hu (items := items) hh hlI hSI hSl rest (i + 1) (storedH acc q.1 q.2.1 q.2.2) (ix + 1) 0 _ (show items.size = i + 1 + rest.length by omega) ?_ (fun j q' e => ?_) ?_ ?_ ?_ hm2 fun h' tk hd' k => ?_⟩
    · have z := stH_len acc q.1 q.2.1 q.2.2
      omega
    · obtain ⟨b', hb', hbS', hbI', htup', hk', hS', hI'⟩ := ht (j + 1) q' (by simpa using e)
      refine ⟨b', ?_, hbS', hbI', (htup'.extBut hs1.extBut hbI').extBut hs2.extBut hbS', isk_at hk' fun o e => hs2.extBut _ o hS' (hs1.extBut _ o hI' e), hS', hI'⟩
      rw [show i + 1 + j = i + (j + 1) by omega]
      exact hb'
    · intro x hx
      unfold storedH at hx
      split at hx
      · obtain ⟨y, hy, rfl⟩ := List.mem_map.mp hx
        have : (putAt q.1 q.2.2 y).2.1 = y.2.1 := by unfold putAt; split <;> rfl
        rw [this]; exact hac y hy
      · rcases List.mem_append.mp hx with z | z
        · exact hac x z
        · rw [List.mem_singleton.mp z]; exact ⟨hqS, hqI⟩
    · exact hit1.at fun o' e => hs2.extBut I o' (Ne.symm hSI) e
    · exact hl1.extBut hs2.extBut (Ne.symm hSl)
    · exact hR h' tk hd' fun c oc h3 h4 e => k c oc h3 h4 (hs2.extBut c oc h3 (hs1.extBut c oc h4 e))
/-- dict(l) of a list of pairs -/
theorem call_dict_pairsT (hu : A.units + 2 < cLine) {s : Shared} {l : Addr} {ol : Obj} {items : Array Value} {n : Nat} {prs : List (List L2.Key × Addr × Value)} {Q : Value → Shared → Prop} (hh : A.handled = none) (hl : s.heap.get? l = some ol) (hc : ol.cls = .type "list") (hd : ol.dict = none)
    (hdat : ol.data = .seq items n) (hsz : items.size = prs.length) (hln : prs.length ≤ sizeLine)
    (ht : ∀ (j : Nat) (q : List L2.Key × Addr × Value), prs[j]? = some q → ∃ (b : Addr), items[j]? = some (.ref b) ∧ IsTup s.heap b #[.ref q.2.1, q.2.2] ∧ (TK prog w).is s.heap q.1 q.2.1)
    (h : ∀ h' tk, h'.DictOfH (TK prog w) s.heap.objs.size (mergedH [] prs) → (∀ b o, s.heap.get? b = some o → h'.get? b = some o) → Q (.ref s.heap.objs.size) { s with heap := h', toks := tk }) :
    wpAny (model prog w) A (call (.type "dict") [.ref l]) Q E s := by
  refine callType_codes (Q₁ := fun obj s₁ => obj = .ref s.heap.objs.size ∧ s₁ = { s with heap := s.heap.push { cls := .type "dict", data := .dict #[] } }) PySem.F.kt_called_dict (PySem.F.kt_typeCall_dict_1 _) PySem.F.entry_dict_init (kt_code_dict_new _ ⟨rfl, rfl⟩) ?_
  rintro obj s₁ ⟨rfl, rfl⟩
  have hnew : (s.heap.push { cls := .type "dict", data := .dict #[] }).DictOfH (TK prog w) s.heap.objs.size [] := Heap.DictOfH.new s.heap
  have k0 : ∀ b o, s.heap.get? b = some o → (s.heap.push { cls := .type "dict", data := .dict #[] }).get? b = some o := fun b o e => Heap.get?_push_of_some _ e
  refine ⟨hnew.typeIs, PySem.F.args_dict_init_2 _ _, ?_⟩
  unfold Builtin.«dict.__init__»
  refine wpAny_bind ?_
  unfold Builtin.Dict.selfAndRest
  refine wpAny_bind (wpAny_notOrdered_dict hnew.typeIs ?_)
  show wpAny _ _ (pure (s.heap.objs.size, [Value.ref l])) _ _ _
  refine wpAny_pure ?_
  show wpAny _ _ (Builtin.Dict.updateFrom "dict.__init__" s.heap.objs.size (.ref l) [] .none) _ _ _
  unfold Builtin.Dict.updateFrom
  refine wpAny_bind (wpAny_typeOf (T := "list") ⟨ol, k0 _ _ hl, hc⟩ ?_)
  rw [if_pos (by first | decide | rfl | simp)]
  refine wpAny_bind (miss_list (k0 _ _ hl) hc hdat hd hh fun h1 tk1 hk1 => ?_)
  rw [if_pos (show (none : Option Value).isNone = true from rfl)]
  refine wpAny_bind (wpAny_rule ?_)
  have hl1 : h1.IsList l items := ⟨ol, hk1 _ _ (k0 _ _ hl), hc, n, hdat⟩
  have hS1 : s.heap.objs.size < h1.objs.size := by
    have e : (s.heap.push { cls := .type "dict", data := .dict #[] }).get? s.heap.objs.size = some { cls := .type "dict", data := .dict #[] } := Heap.get?_push_size _ rfl
    exact Heap.lt_size (hk1 _ _ e)
  refine wpAny_bind (wpAny_pyIter_list hl1 ?_)
  have k2 : ∀ b o, h1.get? b = some o → (h1.push { cls := .type "list_iterator", data := .fields #[.ref l, .int 0 0] }).get? b = some o := fun b o e => Heap.get?_push_of_some _ e
  have hlt : l < s.heap.objs.size := Heap.lt_size hl
  have key := upd_loopT (prog := prog) (w := w) (A := A.in1) hu (R := wants (fun r s₂ => r = .none ∧ Q (.ref s.heap.objs.size) s₂) E) (S := s.heap.objs.size) (I := h1.objs.size) (l := l) (items := items) (res := Value.none) hh
    (Nat.ne_of_lt (Nat.lt_trans hlt hS1)) (Nat.ne_of_lt hS1) (Nat.ne_of_gt hlt) prs 0 [] 0 0
    { s with heap := h1.push { cls := .type "list_iterator", data := .fields #[.ref l, .int 0 0] }, toks := tk1 } (by rw [hsz, Nat.zero_add]) (by rw [List.length_nil, Nat.zero_add]; exact hln)
    (fun j q e => by
      obtain ⟨b, e1, e2, e3⟩ := ht j q e
      have hb : b < s.heap.objs.size := e2.lt
      have hq : q.2.1 < s.heap.objs.size := isk_lt e3
      exact ⟨b, by rw [Nat.zero_add]; exact e1, Nat.ne_of_lt hb, Nat.ne_of_lt (Nat.lt_trans hb hS1), e2.keeps fun c o z => k2 _ _ (hk1 _ _ (k0 _ _ z)), isk_at e3 fun o z => k2 _ _ (hk1 _ _ (k0 _ _ z)), Nat.ne_of_lt hq, Nat.ne_of_lt (Nat.lt_trans hq hS1)⟩)
    (by simp)
    ⟨_, Heap.get?_push_size _ rfl, rfl, rfl⟩ (hl1.at fun o e => k2 _ _ e) ((hnew.at' (fun o e => hk1 _ _ e) (by simp)).at' (fun o e => k2 _ _ e) (by simp))
    (fun h' tk hd' k => ⟨rfl, h h' tk hd' fun b o e => k b o (Nat.ne_of_lt (Heap.lt_size e)) (Nat.ne_of_lt (Nat.lt_trans (Heap.lt_size e) hS1)) (k2 _ _ (hk1 _ _ (k0 _ _ e)))⟩)
  first
    | exact wpAny_pure ⟨plainId_quiet ud_plain _, key⟩
    | exact wpAny_bind (wpAny_pure (wpAny_pure ⟨plainId_quiet ud_plain _, key⟩))
end
section
variable {X : Cx}
/-- a pair (key, value) at p, the key a tracked tuple -/
def PrT (K : PySem.W.Frag) (H : Hp) (p : Addr) (kv : List L2.Key × V) : Prop := ∃ b, SqT K H p [.ref b, kv.2] ∧ H b = some (.tup (kv.1.map kV))
theorem pairs_ofT {pins : List (Addr × Obj)} {σ : L2.St} {H : Hp} {s : Shared} (I : Inv X pins σ H s) : ∀ {ps : List Addr} {kvs : List (List L2.Key × V)}, Paired (PrT X.K H) ps kvs →
    ∃ prs : List (List L2.Key × Addr × Value), KT H kvs prs ∧ prs.length = ps.length ∧ ∀ (j : Nat) (q : List L2.Key × Addr × Value), prs[j]? = some q → ∃ (b : Addr), ps[j]? = some b ∧ IsTup s.heap b #[.ref q.2.1, q.2.2] ∧ (TK X.prog X.w).is s.heap q.1 q.2.1
  | _, _, .nil => ⟨[], .nil, rfl, fun j q e => by simp at e⟩
  | _, _, .cons (a := p) (b := kv) ⟨kb, h, hk⟩ t => by
    obtain ⟨prs, r, hl, hp⟩ := pairs_ofT I t
    obtain ⟨its, rv, ht, _⟩ := I.tuple h
    obtain ⟨u, y, ei, ru, ry⟩ := vals2 rv
    subst ei
    obtain rfl : u = Value.ref kb := ru
    refine ⟨(kv.1, kb, y) :: prs, .cons ⟨rfl, hk, ry⟩ r, by rw [List.length_cons, List.length_cons, hl], fun j q e => ?_⟩
    cases j with
    | zero =>
      have e' : (kv.1, kb, y) = q := Option.some.inj e
      subst e'
      exact ⟨p, rfl, ht, key_of I.hok hk⟩
    | succ j =>
      obtain ⟨b, e1, e2, e3⟩ := hp j q (by simpa using e)
      exact ⟨b, by simpa using e1, e2, e3⟩
theorem KT.merge {H : Hp} : ∀ {more : List (List L2.Key × V)} {rs : List (List L2.Key × Addr × Value)} {kvs : List (List L2.Key × V)} {vs : List (List L2.Key × Addr × Value)}, KT H more rs → KT H kvs vs → KT H (mergeT kvs more) (mergedH vs rs)
  | _, _, _, _, .nil, r => r
  | _, _, kvs, vs, .cons (a := p) (b := q) ⟨h1, h2, h3⟩ t, r => by
    have hp := KT.put r p.1 (b := q.2.1) h2 h3
    rw [h1] at hp
    have e := KT.merge (kvs := putK kvs q.1 p.2) (vs := storedH vs q.1 q.2.1 q.2.2) t hp
    show KT H (mergeT (putK kvs p.1 p.2) _) _
    rw [h1]
    exact e
theorem mergeT_len : ∀ (more kvs : List (List L2.Key × V)), (mergeT kvs more).length ≤ kvs.length + more.length
  | [], _ => Nat.le_refl _
  | x :: more, kvs => by
    have h1 := mergeT_len more (putK kvs x.1 x.2)
    have h2 := length_putK kvs x.1 x.2
    show (mergeT (putK kvs x.1 x.2) more).length ≤ _
    rw [List.length_cons]; omega
/-- dict(xs) of a list of pairs whose keys are tuples -/
def rDictT (K : PySem.W.Frag) : List V → Hp → VK → Prop := fun xs H Q => ∃ (a : Addr) (ps : List Addr) (kvs : List (List L2.Key × V)), xs = [.ref a] ∧ SqL K H a (ps.map V.ref) ∧ Paired (PrT K H) ps kvs ∧ ∀ p, H p = none → Q (.ref p) (upd H p (.dT (mergeT [] kvs)))
theorem call_dictT {K : PySem.W.Frag} (hK : X.K = K) (hcalm : X.calm = true) (hu : X.A.units + 2 < cLine) : CallR X (.type "dict") (rDictT K) := by
  subst hK
  intro pins s σ H xs us Q I r q
  obtain ⟨a, ps, kvs, ex, hq, hp, q⟩ := q
  subst ex
  obtain ⟨u, eu, rx⟩ := vals1 r
  subst eu
  cases rx
  obtain ⟨its, rv, pl, hz⟩ := I.list hq
  have ei := refs_at rv
  subst ei
  rw [List.length_map] at hz
  obtain ⟨prs, rel, hl, hpr⟩ := pairs_ofT I hp
  obtain ⟨o, n, ho, hc, hd, hdat⟩ := pl
  have hln : kvs.length = ps.length := by rw [← hl]; exact rel.length
  refine call_dict_pairsT hu (prs := prs) (I.ok.hd hcalm) ho hc hd hdat (by simp [hl]) (by rw [hl]; exact hz) (fun j q' e => ?_) fun h' tk hd' k => ?_
  · obtain ⟨b, e1, e2, e3⟩ := hpr j q' e
    exact ⟨b, by simp [e1], e2, e3⟩
  · have hm : (s.heap.objs.size == sysModules) = false := beq_eq_false_iff_ne.mpr (Nat.ne_of_gt I.big)
    have hlen : (mergeT [] kvs).length ≤ sizeLine := by
      refine Nat.le_trans (mergeT_len kvs []) ?_
      rw [List.length_nil, Nat.zero_add, hln]
      exact hz
    have fr : H s.heap.objs.size = none := I.hok.fresh (Nat.le_refl _)
    refine ⟨.ref s.heap.objs.size, upd H s.heap.objs.size (.dT (mergeT [] kvs)), I.laid (t' := tk) k (Nat.le_refl _) ?_, rfl, q _ fr⟩
    obtain ⟨o2, es, ep, g1, g2, g3, g4, g5, g6⟩ := hd'
    refine ⟨hlen, hm, mergedH [] prs, (KT.merge rel .nil).keeps fun b ys hb => ?_, o2, es, ep, g1, g2, g3, g4, g6⟩
    rw [upd_ne fun z => by rw [z, fr] at hb; cases hb]
    exact hb
end
/-- d.setdefault(y, z), the keys tuples -/
def tDSetdT (td ty tx : TE) : TE := fun σ H Q => td σ H fun x H1 => ∃ a, x = .ref a ∧ IsD H1 a ∧ ty σ H1 fun y H2 => tx σ H2 fun z H3 => ∃ (kvs : List (List L2.Key × V)) (k : List L2.Key) (b : Addr), H3 a = some (.dT kvs) ∧ y = .ref b ∧ H3 b = some (.tup (k.map kV)) ∧ kvs.length < sizeLine ∧
  (∀ v, valV kvs k = some v → Q v H3) ∧ (valV kvs k = none → Q z (upd H3 a (.dT (putK kvs k z))))
section
variable {X : Cx} {o e f : Expr} {td ty tx : TE} {apos cpos : Pos}
theorem pe_dsetdT (hu : X.A.units + 1 < cLine) (ho : PE X o td) (he : PE X e ty) (hf : PE X f tx) (m : M2 X o "setdefault" apos e f cpos) : PE X (.Call (.Attribute o "setdefault" apos) [e, f] [] cpos) (tDSetdT td ty tx) := by
  refine ⟨fun pins s σ H Q I h => ?_⟩
  refine wpAny_Call_method m.base m.few m.line PySem.F.plainAttrs_dict PySem.F.slot_dict_setdefault PySem.F.type_dict_setdefault (thn (ho.run pins s σ H _ I h) fun u s1 ⟨x, H1, I1, rx, a, ex, d, q1⟩ => ?_)
  subst ex
  obtain rfl : u = Value.ref a := rx
  obtain ⟨t1, t2, _⟩ := isD_at I1 d
  refine ⟨t1, t2, ?_⟩
  rw [m.trees]
  refine Calls.callWith_builtin rfl (Calls.evalArgs_plain (Calls.spliced_cons (thn (he.run pins s1 σ H1 _ I1 q1) fun iv s2 ⟨y, H2, I2, ry, q2⟩ =>
    Calls.spliced_cons (thn (hf.run pins s2 σ H2 _ I2 q2) fun fv s3 ⟨z, H3, I3, rz, kvs, k, b, ea, ey, eb, hl, q3, q4⟩ => Calls.spliced_nil ?_))))
  subst ey
  obtain rfl : iv = Value.ref b := ry
  obtain ⟨hz, hd, xs, rel, dd⟩ := dt_of I3.hok ea
  have hlx : xs.length ≤ sizeLine := by rw [← rel.length]; exact hz
  refine call_meetsIn PySem.F.slot_dict_setdefault dd.typeIs PySem.F.entry_dict_setdefault (PySem.F.args_dict_setdefault_3 _ _ _) (meetsH_dict_setdefault (TK X.prog X.w) a b hd fv) ⟨tupleKind_room_in1 hu, k, xs, key_of I3.hok eb, dd, hlx, fun p hp => ?_, fun hn h' dd' hs => ?_⟩
  · have q := rel.val k
    rw [hp] at q
    cases q0 : valV kvs k with
    | none => rw [q0] at q; exact (show False from q).elim
    | some v0 =>
      rw [q0] at q
      exact ⟨v0, _, I3.tok _, q, q3 v0 q0⟩
  · have q := rel.val k
    rw [hn] at q
    cases q0 : valV kvs k with
    | some v0 => rw [q0] at q; exact (show False from q).elim
    | none =>
      have hl2 : (putK kvs k z).length ≤ sizeLine := by have := length_putK kvs k z; omega
      obtain ⟨q, es, ep, hq, h2, h3, h4, _, h5⟩ := dd'
      have I4 := d_write (t' := s3.toks + (TK X.prog X.w).draws k) I3 (by rw [ea]; exact True.intro) hs ⟨q, hq⟩ (show ObjOk X.prog X.w _ h' a (.dT (putK kvs k z)) from ⟨hl2, hd, _, (rel.put k eb rz).keeps fun c ys ec => by
        rw [upd_ne (ne_of ec ea (fun z => nomatch z))]
        exact ec, q, es, ep, hq, h2, h3, h4, h5⟩)
      exact ⟨z, _, I4, rz, q4 q0⟩
end
end Kk

set_option maxHeartbeats 4000000
namespace K48
open PySem PySem.Spec PyProof.Rows L2 Kk
/-! dicts of boxes to anything -/
section
variable {α : Type}
def lkB (dv : List (Bx × α)) (b : Bx) : Option α := (dv.find? fun x => decide (x.1 = b)).map (·.2)
def stB (dv : List (Bx × α)) (b : Bx) (n : α) : List (Bx × α) := if (dv.any fun x => decide (x.1 = b)) = true then dv.map (fun x => if x.1 = b then (x.1, n) else x) else dv ++ [(b, n)]
theorem lkB_cons {x : Bx × α} {dv : List (Bx × α)} {b : Bx} : lkB (x :: dv) b = if x.1 = b then some x.2 else lkB dv b := by
  unfold lkB
  rw [List.find?_cons]
  by_cases h : x.1 = b <;> simp [h]
theorem lkB_any {b : Bx} : ∀ {dv : List (Bx × α)}, (dv.any fun x => decide (x.1 = b)) = (lkB dv b).isSome
  | [] => rfl
  | x :: r => by
    rw [List.any_cons, lkB_cons, lkB_any (dv := r)]
    by_cases h : x.1 = b <;> simp [h]
theorem lkB_app {b : Bx} {y : Bx × α} : ∀ {dv : List (Bx × α)}, lkB (dv ++ [y]) b = ((lkB dv b).or (if y.1 = b then some y.2 else none))
  | [] => by rw [List.nil_append, lkB_cons]; rfl
  | x :: r => by
    rw [List.cons_append, lkB_cons, lkB_cons, lkB_app (dv := r)]
    by_cases h : x.1 = b <;> simp [h]
theorem lkB_map {b c : Bx} {n : α} : ∀ {dv : List (Bx × α)}, lkB (dv.map fun x => if x.1 = b then (x.1, n) else x) c = if c = b then (lkB dv c).map (fun _ => n) else lkB dv c
  | [] => by split <;> rfl
  | x :: r => by
    rw [List.map_cons, lkB_cons, lkB_cons, lkB_map (dv := r)]
    by_cases h : x.1 = b
    · rw [if_pos h]
      by_cases h2 : x.1 = c
      · have h3 : c = b := h2.symm.trans h
        rw [if_pos h2, if_pos h3, if_pos h2]; rfl
      · rw [if_neg h2, if_neg h2]
    · rw [if_neg h]
      by_cases h2 : x.1 = c
      · have h3 : ¬ c = b := fun z => h (h2.trans z)
        rw [if_pos h2, if_neg h3, if_pos h2]
      · rw [if_neg h2, if_neg h2]
theorem lkB_st {dv : List (Bx × α)} {b c : Bx} {n : α} : lkB (stB dv b n) c = if c = b then some n else lkB dv c := by
  unfold stB
  split
  · rename_i h
    rw [lkB_map]
    split
    · rename_i e
      rw [lkB_any, ← e] at h
      obtain ⟨x, hx⟩ := Option.isSome_iff_exists.mp h
      rw [hx]; rfl
    · rfl
  · rename_i h
    rw [lkB_app]
    rw [lkB_any] at h
    by_cases e : c = b
    · rw [if_pos e, if_pos e.symm]
      rw [e, Option.not_isSome_iff_eq_none.mp h]; rfl
    · rw [if_neg e, if_neg fun z => e z.symm]
      cases lkB dv c <;> rfl
theorem stB_len {dv : List (Bx × α)} {b : Bx} {n : α} : (stB dv b n).length ≤ dv.length + 1 := by
  unfold stB
  split
  · rw [List.length_map]; omega
  · rw [List.length_append]; exact Nat.le_refl _
theorem stB_mem {dv : List (Bx × α)} {b : Bx} {n : α} {x : Bx × α} (h : x ∈ stB dv b n) : x = (b, n) ∨ x ∈ dv := by
  unfold stB at h
  split at h
  · obtain ⟨y, hy, rfl⟩ := List.mem_map.mp h
    split
    · rename_i e; exact .inl (by rw [← e])
    · exact .inr hy
  · rcases List.mem_append.mp h with h | h
    · exact .inr h
    · exact .inl (List.mem_singleton.mp h)
theorem stB_keys {dv : List (Bx × α)} {b : Bx} {n : α} (h : (dv.map (·.1)).Nodup) : ((stB dv b n).map (·.1)).Nodup := by
  unfold stB
  split
  · rw [List.map_map]
    rw [show dv.map ((fun x => x.1) ∘ fun x => if x.1 = b then (x.1, n) else x) = dv.map (·.1) from List.map_congr_left fun x _ => by show (if x.1 = b then (x.1, n) else x).1 = x.1; split <;> rfl]
    exact h
  · rename_i e
    rw [List.map_append]
    refine List.nodup_append.mpr ⟨h, by simp, fun x hx y hy => ?_⟩
    rw [List.mem_singleton.mp hy]
    intro z
    obtain ⟨p, hp, rfl⟩ := List.mem_map.mp hx
    exact e (List.any_eq_true.mpr ⟨p, hp, decide_eq_true z⟩)
theorem lkB_nd : ∀ {dv : List (Bx × α)}, (dv.map (·.1)).Nodup → ∀ {x : Bx × α}, x ∈ dv → lkB dv x.1 = some x.2
  | [], _, _, h => by cases h
  | y :: r, nd, x, h => by
    rw [List.map_cons, List.nodup_cons] at nd
    rw [lkB_cons]
    rcases List.mem_cons.mp h with rfl | h
    · rw [if_pos rfl]
    · rw [if_neg fun z => nd.1 (List.mem_map.mpr ⟨x, h, z.symm⟩)]
      exact lkB_nd nd.2 h
theorem lkB_mem {b : Bx} {n : α} : ∀ {dv : List (Bx × α)}, lkB dv b = some n → (b, n) ∈ dv
  | [], h => by cases h
  | x :: r, h => by
    rw [lkB_cons] at h
    split at h
    · rename_i e; cases h; rw [← e]; exact List.mem_cons_self
    · exact List.mem_cons_of_mem _ (lkB_mem h)
end
section
variable {κ : Type} [DecidableEq κ] (f : Bx → κ)
theorem valV_bv {q : Bx} : ∀ {dv : List (Bx × V)}, (∀ x ∈ dv, f x.1 = f q → x.1 = q) → valV (dv.map fun x => (f x.1, x.2)) (f q) = lkB dv q
  | [], _ => rfl
  | x :: r, h => by
    rw [List.map_cons, lkB_cons]
    by_cases e : x.1 = q
    · rw [valV_pos (by rw [e]), if_pos e]
    · rw [valV_neg fun z => e (h x List.mem_cons_self z), if_neg e, valV_bv fun y hy => h y (List.mem_cons_of_mem _ hy)]
theorem putK_bv {q : Bx} {n : V} {dv : List (Bx × V)} (h : ∀ x ∈ dv, f x.1 = f q → x.1 = q) : putK (dv.map fun x => (f x.1, x.2)) (f q) n = (stB dv q n).map fun x => (f x.1, x.2) := by
  have ea : ((dv.map fun x => (f x.1, x.2)).any fun kv => decide (kv.1 = f q)) = dv.any fun x => decide (x.1 = q) := by
    rw [valV_any, valV_bv f h, lkB_any]
  unfold putK stB
  rw [ea]
  split
  · rw [List.map_map, List.map_map]
    refine List.map_congr_left fun x hx => ?_
    show (if f x.1 = f q then (f x.1, n) else (f x.1, x.2)) = _
    by_cases e : x.1 = q
    · rw [if_pos (by rw [e])]
      show _ = (fun x => (f x.1, x.2)) (if x.1 = q then (x.1, n) else x)
      rw [if_pos e]
    · rw [if_neg fun z => e (h x hx z)]
      show _ = (fun x => (f x.1, x.2)) (if x.1 = q then (x.1, n) else x)
      rw [if_neg e]
  · rw [List.map_append]; rfl
end
def bvO (tk : Bool) (dv : List (Bx × V)) : HO := match tk with
  | true => .dK (dv.map fun x => (kS x.1, x.2))
  | false => .dT (dv.map fun x => (kT x.1, x.2))
theorem bvO_nt {tk : Bool} {dv : List (Bx × V)} : NoTb (bvO tk dv) ∧ Fx (bvO tk dv) = false := by cases tk <;> exact ⟨(fun _ z => by cases z), rfl⟩
def BdV (H : Hp) (b : Addr) (tk : Bool) (dv : List (Bx × V)) : Prop := (∀ x ∈ dv, isS x.1 = tk) ∧ H b = some (bvO tk dv)
theorem BdV.ex {H H' : Hp} {b : Addr} {tk : Bool} {dv : List (Bx × V)} {xs : List Addr} (h : BdV H b tk dv) (e : Ex xs H H') (m : b ∉ xs) : BdV H' b tk dv := ⟨h.1, e.a b _ m h.2 bvO_nt.1⟩
theorem BdV.get {H : Hp} {b : Addr} {tk : Bool} {dv : List (Bx × V)} {q : Bx} {v : V} (h : BdV H b tk dv) (hq : isS q = tk) (hv : BxT H v q) : DGet H b v (lkB dv q) := by
  obtain ⟨h0, h⟩ := h
  cases tk with
  | true =>
    cases q with
    | s z =>
      obtain rfl : v = .str z := hv
      have g : DGet H b (.str z) _ := DGet.k (k := .inr z) h
      have e := valV_bv kS (q := .s z) (dv := dv) fun x hx e => kS_inj (h0 x hx) rfl e
      exact e ▸ g
    | q _ _ => cases hq
  | false =>
    cases q with
    | q z n =>
      obtain ⟨t, rfl, ht⟩ := hv
      have g : DGet H b (.ref t) _ := DGet.t (k := [.inr z, .inl n]) h ht
      have e := valV_bv kT (q := .q z n) (dv := dv) fun x hx e => kT_inj (h0 x hx) rfl e
      exact e ▸ g
    | s _ => cases hq
theorem BdV.put {H : Hp} {b : Addr} {tk : Bool} {dv : List (Bx × V)} {q : Bx} {v n : V} (h : BdV H b tk dv) (hq : isS q = tk) (hv : BxT H v q) (hl : dv.length < sizeLine) : ∃ H', DPut H b v n H' ∧ Ex [b] H H' ∧ BdV H' b tk (stB dv q n) := by
  obtain ⟨h0, h⟩ := h
  have h1 : ∀ x ∈ stB dv q n, isS x.1 = tk := fun x hx => by
    rcases stB_mem hx with rfl | hx
    · exact hq
    · exact h0 x hx
  cases tk with
  | true =>
    cases q with
    | s z =>
      obtain rfl : v = .str z := hv
      have e := putK_bv kS (q := .s z) (n := n) (dv := dv) fun x hx e => kS_inj (h0 x hx) rfl e
      refine ⟨_, DPut.k (k := .inr z) h (by rw [List.length_map]; exact hl), .put h (fun _ z => by cases z) (by simp), h1, ?_⟩
      rw [upd_same]
      exact congrArg (fun x => Option.some (HO.dK x)) e
    | q _ _ => cases hq
  | false =>
    cases q with
    | q z m =>
      obtain ⟨t, rfl, ht⟩ := hv
      have e := putK_bv kT (q := .q z m) (n := n) (dv := dv) fun x hx e => kT_inj (h0 x hx) rfl e
      refine ⟨_, DPut.t (k := [.inr z, .inl m]) h ht (by rw [List.length_map]; exact hl), .put h (fun _ z => by cases z) (by simp), h1, ?_⟩
      rw [upd_same]
      exact congrArg (fun x => Option.some (HO.dT x)) e
    | s _ => cases hq
theorem BdV.isD {H : Hp} {b : Addr} {tk : Bool} {dv : List (Bx × V)} (h : BdV H b tk dv) : IsD H b := by
  obtain ⟨_, h⟩ := h
  cases tk
  · exact .inr ⟨_, .inl h⟩
  · exact .inl ⟨_, .inl h⟩
/-! what the law's boxes hold: a form and whether it has a worth -/
def PrT (H : Hp) (v : V) (p : Nat × Bool) : Prop := ∃ t, v = .ref t ∧ H t = some (.tup [.int p.1, .bl p.2])
theorem PrT.ex {H H' : Hp} {v : V} {p : Nat × Bool} {xs : List Addr} (h : PrT H v p) (e : Ex xs H H') : PrT H' v p := by
  obtain ⟨t, rfl, h⟩ := h; exact ⟨t, rfl, e.tup h⟩
def RvP (H : Hp) (x : Bx × V) (y : Bx × (Nat × Bool)) : Prop := x.1 = y.1 ∧ PrT H x.2 y.2
def HvH (H : Hp) (b : Addr) (tk : Bool) (hv : List (Bx × (Nat × Bool))) : Prop := ∃ dv, BdV H b tk dv ∧ P2 (RvP H) dv hv
theorem HvH.ex {H H' : Hp} {b : Addr} {tk : Bool} {hv : List (Bx × (Nat × Bool))} {xs : List Addr} (h : HvH H b tk hv) (e : Ex xs H H') (m : b ∉ xs) : HvH H' b tk hv := by
  obtain ⟨dv, h1, h2⟩ := h
  exact ⟨dv, h1.ex e m, h2.imp fun _ _ q => ⟨q.1, q.2.ex e⟩⟩
theorem rv_lk {H : Hp} {q : Bx} {dv : List (Bx × V)} {hv : List (Bx × (Nat × Bool))} (h : P2 (RvP H) dv hv) : (lkB dv q = none ∧ lkB hv q = none) ∨ ∃ v p, lkB dv q = some v ∧ lkB hv q = some p ∧ PrT H v p := by
  induction h with
  | nil => exact .inl ⟨rfl, rfl⟩
  | @cons x y l m r t ih =>
    rw [lkB_cons, lkB_cons, ← r.1]
    by_cases e : x.1 = q
    · rw [if_pos e, if_pos e]; exact .inr ⟨_, _, rfl, rfl, r.2⟩
    · rw [if_neg e, if_neg e]; exact ih
theorem rv_st {H : Hp} {q : Bx} {v : V} {p : Nat × Bool} {dv : List (Bx × V)} {hv : List (Bx × (Nat × Bool))} (h : P2 (RvP H) dv hv) (hp : PrT H v p) : P2 (RvP H) (stB dv q v) (stB hv q p) := by
  have ea : (dv.any fun x => decide (x.1 = q)) = hv.any fun x => decide (x.1 = q) := by
    rw [lkB_any, lkB_any]
    rcases rv_lk (q := q) h with ⟨e1, e2⟩ | ⟨_, _, e1, e2, _⟩ <;> rw [e1, e2] <;> rfl
  unfold stB
  rw [ea]
  split
  · have : ∀ {dv : List (Bx × V)} {hv : List (Bx × (Nat × Bool))}, P2 (RvP H) dv hv → P2 (RvP H) (dv.map fun x => if x.1 = q then (x.1, v) else x) (hv.map fun x => if x.1 = q then (x.1, p) else x) := by
      intro dv hv h
      induction h with
      | nil => exact .nil
      | @cons x y l m r t ih =>
        refine .cons ?_ ih
        show RvP H (if x.1 = q then (x.1, v) else x) (if y.1 = q then (y.1, p) else y)
        by_cases e : x.1 = q
        · rw [if_pos e, if_pos (r.1 ▸ e)]; exact ⟨r.1, hp⟩
        · rw [if_neg e, if_neg (r.1 ▸ e)]; exact r
    exact this h
  · exact h.app (.cons ⟨rfl, hp⟩ .nil)
/-! the law's numbered forms -/
def ixL : Nat → List (List L2.Key) → List L2.Key → Option Nat
  | _, [], _ => none
  | k, a :: r, m => if a = m then some k else ixL (k + 1) r m
def knL : Nat → List (List L2.Key) → List (List L2.Key × V)
  | _, [] => []
  | k, a :: r => (a, .int k) :: knL (k + 1) r
theorem knL_val {m : List L2.Key} : ∀ {ms : List (List L2.Key)} {k : Nat}, valV (knL k ms) m = (ixL k ms m).map fun n => V.int n
  | [], _ => rfl
  | a :: r, k => by
    unfold knL ixL
    by_cases e : a = m
    · rw [valV_pos e, if_pos e]; rfl
    · rw [valV_neg e, if_neg e, knL_val]
theorem knL_app {m : List L2.Key} : ∀ {ms : List (List L2.Key)} {k : Nat}, knL k (ms ++ [m]) = knL k ms ++ [(m, .int (k + ms.length : Nat))]
  | [], _ => rfl
  | a :: r, k => by
    show (a, V.int k) :: knL (k + 1) (r ++ [m]) = _
    rw [knL_app]
    show _ = (a, V.int k) :: (knL (k + 1) r ++ [(m, .int (k + (r.length + 1) : Nat))])
    rw [show k + 1 + r.length = k + (r.length + 1) by omega]
theorem knL_len : ∀ {ms : List (List L2.Key)} {k : Nat}, (knL k ms).length = ms.length
  | [], _ => rfl
  | a :: r, k => by unfold knL; rw [List.length_cons, List.length_cons, knL_len]
theorem knL_put {m : List L2.Key} {ms : List (List L2.Key)} (h : ixL 0 ms m = none) : putK (knL 0 ms) m (.int ms.length) = knL 0 (ms ++ [m]) := by
  unfold putK
  rw [valV_any, knL_val, h, knL_app, Nat.zero_add]
  rfl
def lform (ks : List (List L2.Key)) (k : List L2.Key) : List (List L2.Key) × Nat := match ixL 0 ks k with
  | some i => (ks, i)
  | none => (ks ++ [k], ks.length)
theorem lform_len (ks : List (List L2.Key)) (k : List L2.Key) : (lform ks k).1.length ≤ ks.length + 1 := by
  unfold lform
  split
  · exact Nat.le_succ _
  · show (ks ++ [k]).length ≤ _; rw [List.length_append]; exact Nat.le_refl _
abbrev s_form2 : Stmt := topS 40
theorem sc_form2 : FnScope ["_law_known", "_law_form_here"] ["_law_known", "_law_form_here"] (defScope s_form2) := ⟨rfl, rfl, rfl, by decide +kernel, rfl, by decide +kernel, by decide +kernel⟩
section
variable {P : Program} {w : World} {K : PySem.W.Frag} {mg : Str → Option Value} {base : Heap}
def spLForm : Sp := fun vs H Q _ => ∃ (kn t : Addr) (k : List L2.Key) (ks : List (List L2.Key)), vs = [.ref kn, .ref t] ∧ H kn = some (.dT (knL 0 ks)) ∧ H t = some (.tup (k.map kV)) ∧ ks.length ≤ 6000 ∧
  ∀ H', Ex [kn] H H' → H' kn = some (.dT (knL 0 (lform ks k).1)) → Q (.int (lform ks k).2) H'
theorem ok_lform {f : Addr} {fd : FuncData} {k : Nat} (F : Fun K "_law_form" "_law_form" s_form2 f fd) (m_len : mg "len" = none) : FnOk P w K mg base CX0 (k + 1) f fd ["_law_known", "_law_form_here"] spLForm := by
  refine F.ok sc_form2 (fun vs H Q E h => ?_) (fun cdv A outer s H vs Q E hr h => ?_)
  · obtain ⟨kn, t, k, ks, rfl, _⟩ := h; rfl
  · obtain ⟨kn, t, k, ks, rfl, hk, ht, hl, q⟩ := h
    refine ⟨_, pss_one (ps_ret (pe_dsetdT (hu_of hr) (pv 0) (pv 1) (pe_callB call_len_dT (by rfl) m_len PySem.boot_len (pa_cons (pv 0) pa_nil)) ⟨rfl, rfl, rfl, rfl⟩)), ?_⟩
    refine ⟨.ref kn, rfl, kn, rfl, .inr ⟨_, .inl hk⟩, .ref t, rfl, .ref kn, rfl, kn, _, rfl, hk, knL 0 ks, k, t, hk, rfl, ht, by rw [knL_len]; exact Nat.lt_of_le_of_lt hl (by decide), fun v hv => ?_, fun hv => ?_⟩
    · rw [knL_val] at hv
      cases e : ixL 0 ks k with
      | none => rw [e] at hv; cases hv
      | some i =>
        rw [e] at hv
        cases hv
        have em : lform ks k = (ks, i) := by unfold lform; rw [e]
        rw [em] at q
        exact q _ .refl hk
    · rw [knL_val] at hv
      cases e : ixL 0 ks k with
      | some i => rw [e] at hv; cases hv
      | none =>
        have em : lform ks k = (ks ++ [k], ks.length) := by unfold lform; rw [e]
        rw [em] at q
        rw [knL_len, knL_put e]
        exact q _ (.put hk (fun _ z => by cases z) (by simp)) upd_same
end
end K48

set_option maxHeartbeats 8000000
namespace K48
open PySem PySem.Spec PyProof.Rows L2 Kk
abbrev s_done : Stmt := topS 41
abbrev n_done : List Str := ["_law_known", "_law_row_here", "_law_nought", "_law_holds_here", "_law_deeds", "_law_word", "_law_some", "_law_form_here", "_law_box", "_law_one_here"]
theorem sc_done : FnScope n_done ["_law_known", "_law_row_here"] (defScope s_done) := ⟨rfl, rfl, rfl, by decide +kernel, rfl, by decide +kernel, by decide +kernel⟩
theorem sNY {a b : Str} (h : ¬ a = b) {A B : Prop} (x : A) : if (!decide (V.str a = V.str b)) = true then A else B := by
  rw [decide_eq_false fun e => h (V.str.inj e)]; exact x
theorem sNN {a : Str} {A B : Prop} (x : B) : if (!decide (V.str a = V.str a)) = true then A else B := by
  rw [decide_eq_true rfl]; exact x
/-! tuples put together and cut, told by their result alone -/
def rCatG (K : PySem.W.Frag) : V → V → Hp → VK → Prop := fun x y H Q => ∃ a b xs ys, x = .ref a ∧ y = .ref b ∧ SqT K H a xs ∧ SqT K H b ys ∧ xs.length + ys.length ≤ sizeLine ∧ ∀ p H', Ex [] H H' → SqT K H' p (xs ++ ys) → Q (.ref p) H'
theorem op_catG {X : Cx} {K : PySem.W.Frag} (hK : X.K = K) : OpR X (binaryOp .Add) (rCatG K) := by
  subst hK
  exact fun pins s σ H x y v u Q I rx ry ⟨a, b, xs, ys, ex, ey, ha, hb, hz, q⟩ => op_catA pins s σ H x y v u Q I rx ry ⟨a, b, xs, ys, ex, ey, ha, hb, hz, (fun e => q b H .refl (by rw [e]; exact hb)), (fun _ e => q a H .refl (by rw [e, List.append_nil]; exact ha)), fun _ _ p np => q p _ (.new np) (.of upd_same)⟩
def rSlG (K : PySem.W.Frag) : V → Option Int → Option Int → Hp → VK → Prop := fun x lo hi H Q => ∃ a xs ys, x = .ref a ∧ SqT K H a xs ∧ cutV xs lo hi = ys ∧ ∀ p H', Ex [] H H' → SqT K H' p ys → Q (.ref p) H'
theorem cut_whole {xs : List V} {lo hi : Option Int} (h : HT.sIx xs.length 0 lo = 0 ∧ HT.sIx xs.length xs.length hi = xs.length) : cutV xs lo hi = xs := by
  unfold cutV
  rw [h.1, h.2, Nat.sub_zero, List.drop_zero, List.take_length]
theorem sl_tupG {X : Cx} {K : PySem.W.Frag} (hK : X.K = K) : SlR X (rSlG K) := by
  subst hK
  exact fun pins s σ H x v vl vu lo hi sl Q I rx hs pl pu ⟨a, xs, ys, ex, ha, e, q⟩ => sl_tupA pins s σ H x v vl vu lo hi sl Q I rx hs pl pu ⟨a, xs, ex, ha, (fun z => q a H .refl (by rw [← e, cut_whole z]; exact ha)), fun _ p np => q p _ (.new np) (by rw [← e]; exact .of upd_same)⟩
theorem cutTo {xs : List V} (k : Nat) : cutV xs none (some (k : Int)) = xs.take k := by
  unfold cutV
  rw [HT.sIx_none, HT.sIx_nat, List.drop_zero, Nat.sub_zero]
  by_cases h : k ≤ xs.length
  · rw [Nat.min_eq_left h]
  · rw [Nat.min_eq_right (by omega), List.take_of_length_le (Nat.le_refl _), List.take_of_length_le (by omega)]
def SeqW (K : PySem.W.Frag) (a : Addr) (xs : List V) (J : It) (G : Hp → Prop) : Prop := (J = Itl K a ∧ G = fun H => SqL K H a xs) ∨ (J = Itt K a ∧ G = fun H => SqT K H a xs)
theorem SeqW.walk {K : PySem.W.Frag} {a : Addr} {xs : List V} {J : It} {G : Hp → Prop} (h : SeqW K a xs J G) : Walk J xs.length G (YAt xs) := by
  rcases h with ⟨rfl, rfl⟩ | ⟨rfl, rfl⟩
  · exact walk_list
  · exact walk_tup
def iSeq (K : PySem.W.Frag) (td : TE) : TI := fun σ H R => td σ H fun x H1 => ∃ a xs J G, x = .ref a ∧ SeqW K a xs J G ∧ G H1 ∧ R J H1
theorem pi_seq {X : Cx} {tg l : Expr} {tl : TE} (hl : PE X l tl) : PI X tg l (iSeq X.K tl) := by
  refine ⟨fun pins s σ H R I h => ?_⟩
  refine thn (hl.run pins s σ H _ I h) fun v s1 ⟨x, H1, I1, r1, q1⟩ => ?_
  obtain ⟨a, xs, J, G, e, w, hq, q⟩ := q1
  subst e
  cases r1
  rcases w with ⟨rfl, rfl⟩ | ⟨rfl, rfl⟩
  · obtain ⟨its, rv, p, hz⟩ := I1.list hq
    refine wpAny_pyIter_list p.isList ?_
    refine ⟨s1.heap.objs.size, [s1.heap.objs.size], _, _, H1, rfl, I1.kept (t' := s1.toks) fun b o e => Heap.get?_push_of_some _ e, turn_list a _, ⟨_, Heap.get?_push_size _ rfl, rfl, rfl⟩, fun b hb => ?_, q⟩
    have e : b = s1.heap.objs.size := by simpa using hb
    subst e
    exact I1.fpOk (Nat.le_refl _) (I1.hok.fresh (Nat.le_refl _))
  · obtain ⟨its, rv, p, hz⟩ := I1.tuple hq
    refine wpAny_pyIter_tuple (show s1.heap.IsTuple a its.toArray from p) ?_
    refine ⟨s1.heap.objs.size, [s1.heap.objs.size], _, _, H1, rfl, I1.kept (t' := s1.toks) fun b o e => Heap.get?_push_of_some _ e, turn_tuple a _, ⟨_, Heap.get?_push_size _ rfl, rfl, rfl⟩, fun b hb => ?_, q⟩
    have e : b = s1.heap.objs.size := by simpa using hb
    subst e
    exact I1.fpOk (Nat.le_refl _) (I1.hok.fresh (Nat.le_refl _))
/-! the law's own doing, as data -/
structure Ld where
  ks : List (List L2.Key)
  hv : List (Bx × (Nat × Bool))
  ds : List PyData
def hg (n0 : Nat) (hv : List (Bx × (Nat × Bool))) (b : Bx) : Nat × Bool := (lkB hv b).getD (n0, false)
def kyN (z : String) (i : Int) : List L2.Key := [.inr (Str.ofString z), .inl i]
def stepL (n0 : Nat) (l : Ld) : Wo → Ld
  | .take b s => ⟨(lform l.ks (kyN "came" (l.ds.length + 1 : Nat))).1, stB l.hv b ((lform l.ks (kyN "came" (l.ds.length + 1 : Nat))).2, true), l.ds ++ [.tuple [.str (Str.ofString "take"), .str s]]⟩
  | .ask b => ⟨(lform l.ks (kyN "came" (l.ds.length + 1 : Nat))).1, stB l.hv b ((lform l.ks (kyN "came" (l.ds.length + 1 : Nat))).2, false), l.ds ++ [.tuple [.str (Str.ofString "ask")]]⟩
  | .tell b => ⟨l.ks, l.hv, l.ds ++ [.tuple [.str (Str.ofString "tell"), .int (hg n0 l.hv b).1]]⟩
  | .number b n => ⟨(lform l.ks (kyN "number" n)).1, stB l.hv b ((lform l.ks (kyN "number" n)).2, false), l.ds⟩
  | .wipe b => ⟨(lform l.ks (kyN "number" 0)).1, stB l.hv b ((lform l.ks (kyN "number" 0)).2, false), l.ds⟩
  | .copy b c => ⟨l.ks, stB l.hv b (hg n0 l.hv c), l.ds⟩
  | .mix b c d => ⟨(lform l.ks [.inr (Str.ofString "mix"), .inl (hg n0 l.hv c).1, .inl (hg n0 l.hv d).1]).1, stB l.hv b ((lform l.ks [.inr (Str.ofString "mix"), .inl (hg n0 l.hv c).1, .inl (hg n0 l.hv d).1]).2, (hg n0 l.hv c).2 || (hg n0 l.hv d).2), l.ds⟩
  | .opn b c => ⟨(lform l.ks (kyN "open" (hg n0 l.hv c).1)).1, stB l.hv b ((lform l.ks (kyN "open" (hg n0 l.hv c).1)).2, false), l.ds⟩
def runL (n0 : Nat) (l : Ld) (ws : List Wo) : Ld := ws.foldl (stepL n0) l
theorem runL_snoc (n0 : Nat) (l : Ld) (ws : List Wo) (W : Wo) : runL n0 l (ws ++ [W]) = stepL n0 (runL n0 l ws) W := by unfold runL; rw [List.foldl_append]; rfl
def leftL (hv : List (Bx × (Nat × Bool))) : List Bx := (hv.filter fun x => x.2.2).map (·.1)
structure LdOk (k0 d0 i : Nat) (l : Ld) : Prop where
  k : l.ks.length ≤ k0 + i
  h : l.hv.length ≤ i
  d : l.ds.length ≤ d0 + i
theorem stepL_ok {k0 d0 i n0 : Nat} {l : Ld} {W : Wo} (h : LdOk k0 d0 i l) : LdOk k0 d0 (i + 1) (stepL n0 l W) := by
  obtain ⟨h1, h2, h3⟩ := h
  have f := fun k => lform_len l.ks k
  have g := fun b p => stB_len (dv := l.hv) (b := b) (n := p)
  cases W <;> refine ⟨?_, ?_, ?_⟩ <;> first
    | exact Nat.le_trans (f _) (by omega)
    | exact Nat.le_trans (g _ _) (by omega)
    | (show (l.ds ++ [_]).length ≤ _; rw [List.length_append, List.length_singleton]; omega)
    | exact Nat.le_trans h1 (by omega)
    | exact Nat.le_trans h2 (by omega)
    | exact Nat.le_trans h3 (by omega)
theorem runL_ok {k0 d0 n0 : Nat} {l : Ld} (h : LdOk k0 d0 0 l) (ws : List Wo) : LdOk k0 d0 ws.length (runL n0 l ws) := by
  have : ∀ n (ws : List Wo), ws.length = n → LdOk k0 d0 n (runL n0 l ws) := by
    intro n
    induction n with
    | zero => intro ws e; rw [List.length_eq_zero_iff.mp e]; exact h
    | succ n ih =>
      intro ws e
      rcases List.eq_nil_or_concat ws with z | ⟨r, a, z⟩
      · rw [z] at e; cases e
      · rw [List.concat_eq_append] at z
        rw [z, runL_snoc]
        exact stepL_ok (ih r (by rw [z, List.length_append] at e; simpa using e))
  exact this _ ws rfl
theorem runL_nd {n0 : Nat} : ∀ {ws : List Wo} {l : Ld}, (l.hv.map (·.1)).Nodup → ((runL n0 l ws).hv.map (·.1)).Nodup
  | [], _, h => h
  | W :: r, l, h => by
    refine runL_nd (ws := r) (l := stepL n0 l W) ?_
    cases W <;> first
      | exact stB_keys h
      | exact h
theorem HvH.get {H : Hp} {b : Addr} {tk : Bool} {hv : List (Bx × (Nat × Bool))} {q : Bx} {v z : V} {n0 : Nat} (h : HvH H b tk hv) (hq : isS q = tk) (hb : BxT H v q) (hz : PrT H z (n0, false)) : ∃ o, DGet H b v o ∧ PrT H (o.getD z) (hg n0 hv q) := by
  obtain ⟨dv, h1, h2⟩ := h
  refine ⟨_, h1.get hq hb, ?_⟩
  unfold hg
  rcases rv_lk (q := q) h2 with ⟨e1, e2⟩ | ⟨u, p, e1, e2, e3⟩
  · rw [e1, e2]; exact hz
  · rw [e1, e2]; exact e3
theorem HvH.put {H : Hp} {b : Addr} {tk : Bool} {hv : List (Bx × (Nat × Bool))} {q : Bx} {v u : V} {p : Nat × Bool} (h : HvH H b tk hv) (hq : isS q = tk) (hb : BxT H v q) (hu : PrT H u p) (hl : hv.length ≤ 5000) : ∃ H', DPut H b v u H' ∧ Ex [b] H H' ∧ HvH H' b tk (stB hv q p) := by
  obtain ⟨dv, h1, h2⟩ := h
  obtain ⟨H', a, e, c⟩ := h1.put (n := u) hq hb (by rw [h2.len]; exact Nat.lt_of_le_of_lt hl (by decide))
  exact ⟨H', a, e, _, c, (rv_st h2 hu).imp fun _ _ q => ⟨q.1, q.2.ex e⟩⟩
theorem HvH.isD {H : Hp} {b : Addr} {tk : Bool} {hv : List (Bx × (Nat × Bool))} (h : HvH H b tk hv) : IsD H b := by obtain ⟨dv, h1, _⟩ := h; exact h1.isD
/-- how it stands -/
structure LdH (K : PySem.W.Frag) (kn hd dl : Addr) (tk : Bool) (l : Ld) (H : Hp) : Prop where
  k : H kn = some (.dT (knL 0 l.ks))
  v : HvH H hd tk l.hv
  d : ∃ us, H dl = some (.lst us) ∧ TpAll K H us l.ds
theorem LdH.nil {K : PySem.W.Frag} {kn hd dl : Addr} {tk : Bool} {l : Ld} {H H' : Hp} (h : LdH K kn hd dl tk l H) (e : Ex [] H H') : LdH K kn hd dl tk l H' := by
  obtain ⟨h1, h2, us, h3, h4⟩ := h
  exact ⟨e.a kn _ (by simp) h1 (fun _ z => by cases z), h2.ex e (by simp), us, e.lst h3, h4.ex e⟩
theorem LdH.form {K : PySem.W.Frag} {kn hd dl : Addr} {tk : Bool} {l : Ld} {ks : List (List L2.Key)} {H H' : Hp} (h : LdH K kn hd dl tk l H) (e : Ex [kn] H H') (k : H' kn = some (.dT (knL 0 ks))) (n1 : hd ≠ kn) (n2 : dl ≠ kn) : LdH K kn hd dl tk ⟨ks, l.hv, l.ds⟩ H' := by
  obtain ⟨h1, h2, us, h3, h4⟩ := h
  exact ⟨k, h2.ex e (by simpa using n1), us, e.lst h3 (by simpa using n2), h4.ex e⟩
theorem LdH.putV {K : PySem.W.Frag} {kn hd dl : Addr} {tk : Bool} {l : Ld} {hv : List (Bx × (Nat × Bool))} {H H' : Hp} (h : LdH K kn hd dl tk l H) (e : Ex [hd] H H') (k : HvH H' hd tk hv) (n1 : hd ≠ kn) (n2 : dl ≠ hd) : LdH K kn hd dl tk ⟨l.ks, hv, l.ds⟩ H' := by
  obtain ⟨h1, h2, us, h3, h4⟩ := h
  exact ⟨e.a kn _ (by simpa using n1.symm) h1 (fun _ z => by cases z), k, us, e.lst h3 (by simpa using n2), h4.ex e⟩
theorem LdH.app {K : PySem.W.Frag} {kn hd dl : Addr} {tk : Bool} {l : Ld} {us : List V} {v : V} {d : PyData} {H : Hp} (h : LdH K kn hd dl tk l H) (hu : H dl = some (.lst us)) (hv : Tp K H v d) (n2 : dl ≠ hd) (n3 : dl ≠ kn) : Ex [dl] H (upd H dl (.lst (us ++ [v]))) ∧ LdH K kn hd dl tk ⟨l.ks, l.hv, l.ds ++ [d]⟩ (upd H dl (.lst (us ++ [v]))) := by
  obtain ⟨h1, h2, us', h3, h4⟩ := h
  have e : Ex [dl] H (upd H dl (.lst (us ++ [v]))) := .put hu nt_lst (by simp)
  rw [hu] at h3
  obtain rfl := HO.lst.inj (Option.some.inj h3)
  exact ⟨e, e.a kn _ (by simpa using n3.symm) h1 (fun _ z => by cases z), h2.ex e (by simpa using n2.symm), _, upd_same, (h4.app (.cons hv .nil)).ex e⟩
/-- which way a word goes in it -/
def aW : List V := [.str (Str.ofString "take"), .str (Str.ofString "ask")]
def nW : List V := [.str (Str.ofString "number"), .str (Str.ofString "wipe")]
section
variable {P : Program} {w : World} {K : PySem.W.Frag} {mg : Str → Option Value} {base : Heap}
def spDone (K : PySem.W.Frag) : Sp := fun vs H Q _ => ∃ (kn r : Addr) (xs : List V) (ws : List Wo) (tk : Bool) (ks : List (List L2.Key)), vs = [.ref kn, .ref r] ∧ H kn = some (.dT (knL 0 ks)) ∧ (SqT K H r xs ∨ (H r = some (.lst xs))) ∧ P2 (WoH K H) xs ws ∧ (∀ W ∈ ws, KdW tk W) ∧ ws.length ≤ 2000 ∧ ks.length ≤ 2000 ∧
  ∀ H' t dl ll us ls, Ex [kn] H H' → H' kn = some (.dT (knL 0 (runL (lform ks (kyN "number" 0)).2 ⟨(lform ks (kyN "number" 0)).1, [], []⟩ ws).ks)) → H' t = some (.tup [.ref dl, .ref ll]) → H dl = none → H ll = none → dl ≠ ll → H' dl = some (.lst us) → TpAll K H' us (runL (lform ks (kyN "number" 0)).2 ⟨(lform ks (kyN "number" 0)).1, [], []⟩ ws).ds → H' ll = some (.lst ls) → P2 (BxT H') ls (leftL (runL (lform ks (kyN "number" 0)).2 ⟨(lform ks (kyN "number" 0)).1, [], []⟩ ws).hv) → Q (.ref t) H'
theorem ok_done {f f1 : Addr} {fd d1 : FuncData} {k : Nat} (F : Fun K "_law_done" "_law_done" s_done f fd) (C__law_form : Cl P w K mg base k "_law_form" ["_law_known", "_law_form_here"] spLForm f1 d1) (m_len : mg "len" = none) (m_tuple : mg "tuple" = none) : FnOk P w K mg base CX0 (k + 1) f fd ["_law_known", "_law_row_here"] (spDone K) := by
  refine F.ok sc_done (fun vs H Q E h => ?_) (fun cdv A outer s H vs Q E hr h => ?_)
  · obtain ⟨kn, r, xs, ws, tk, ks, rfl, _⟩ := h; rfl
  · obtain ⟨kn, r, xs, ws, tk, ks, rfl, hkn, hr0, hws, hkd, hwl, hkl, q⟩ := h
    refine ⟨_, (pss_cons (ps_set (i := 2) sc_done.nd rfl (.inr rfl) (pe_tup (pa_cons (pe_call C__law_form.g hr (by rfl) C__law_form.m C__law_form.k C__law_form.b .nil pass0 (pa_cons (pv 0) (pa_cons (pe_tup (pa_cons pe_str (pa_cons pe_int pa_nil))) pa_nil))) (pa_cons pe_bl pa_nil)))) (pss_cons (ps_set (i := 3) sc_done.nd rfl (.inr rfl) pe_dnewE) (pss_cons (ps_set (i := 4) sc_done.nd rfl (.inl rfl) (pe_lst pa_nil)) (pss_cons (ps_for PassesOwn.never rfl (pi_seq (pv 1)) (pg_name (i := 5) sc_done.nd rfl (.inl rfl)) (pss_one (ps_if (pt_cmpR op_in_seq (pe_ix ix_tup (pv 5) pe_int (fun _ _ => rfl)) (pe_tup (pa_cons pe_str (pa_cons pe_str pa_nil))) rfl) (pss_cons (ps_expr (pe_bm PySem.F.plainAttrs_list PySem.F.slot_list_append PySem.F.type_list_append mt_append (pv 4) (pa_cons (pe_op (op_catG (K := K) rfl) (pe_slice (sl_tupG (K := K) rfl) (pv 5) po_none (po_some pe_int)) (pe_slice (sl_tupG (K := K) rfl) (pv 5) (po_some pe_int) po_none)) pa_nil))) (pss_one (ps_dput (hu_of hr) (pv 3) (pe_ix ix_tup (pv 5) pe_int (fun _ _ => rfl)) (pe_tup (pa_cons (pe_call C__law_form.g hr (by rfl) C__law_form.m C__law_form.k C__law_form.b .nil pass0 (pa_cons (pv 0) (pa_cons (pe_tup (pa_cons pe_str (pa_cons (pe_callB call_len_seq (by rfl) m_len PySem.boot_len (pa_cons (pv 4) pa_nil)) pa_nil))) pa_nil))) (pa_cons (pe_cmpR op_eq (pe_ix ix_tup (pv 5) pe_int (fun _ _ => rfl)) pe_str (nomark _)) pa_nil))) rfl))) (pss_one (ps_if (pt_cmpR op_eq (pe_ix ix_tup (pv 5) pe_int (fun _ _ => rfl)) pe_str (nomark _)) (pss_one (ps_expr (pe_bm PySem.F.plainAttrs_list PySem.F.slot_list_append PySem.F.type_list_append mt_append (pv 4) (pa_cons (pe_tup (pa_cons pe_str (pa_cons (pe_ix ix_tup (pe_dget2 (hu_of hr) (pv 3) (pe_ix ix_tup (pv 5) pe_int (fun _ _ => rfl)) (pv 2) ⟨rfl, rfl, rfl, rfl⟩) pe_int (fun _ _ => rfl)) pa_nil))) pa_nil)))) (pss_one (ps_if (pt_cmpR op_in_seq (pe_ix ix_tup (pv 5) pe_int (fun _ _ => rfl)) (pe_tup (pa_cons pe_str (pa_cons pe_str pa_nil))) rfl) (pss_one (ps_dput (hu_of hr) (pv 3) (pe_ix ix_tup (pv 5) pe_int (fun _ _ => rfl)) (pe_tup (pa_cons (pe_call C__law_form.g hr (by rfl) C__law_form.m C__law_form.k C__law_form.b .nil pass0 (pa_cons (pv 0) (pa_cons (pe_tup (pa_cons pe_str (pa_cons (pe_ix ix_tup (pe_op (op_catG (K := K) rfl) (pv 5) (pe_tup (pa_cons pe_int pa_nil))) pe_int (fun _ _ => rfl)) pa_nil))) pa_nil))) (pa_cons pe_bl pa_nil))) rfl)) (pss_cons (ps_setLc (i := 6) (own := [("_law_box", 8)]) (g := gName 8) (tt := tYes) rfl sc_done.nd rfl rfl (sw_true rfl rfl rfl (by decide +kernel)) (pi_tup (pe_slice (sl_tupG (K := K) rfl) (pv 5) (po_some pe_int) po_none)) (blkOk_by (N := n_done) (sc := defScope s_done) (by decide +kernel)) (fun _ _ _ _ _ => pg_name (i := 8) sc_done.nd rfl (Or.inl rfl)) (fun _ _ _ _ _ => pts_nil) (fun _ _ _ _ _ => (pe_dget2 (hu_of hr) (pv 3) (pv 8) (pv 2) ⟨rfl, rfl, rfl, rfl⟩))) (pss_cons (ps_set (i := 7) sc_done.nd rfl (.inl rfl) (pe_ix ix_tup (pe_ix ix_list (pv 6) pe_int (fun _ _ => rfl)) pe_int (fun _ _ => rfl))) (pss_cons (ps_if (pt_cmpR op_ne (pe_ix ix_tup (pv 5) pe_int (fun _ _ => rfl)) pe_str (nomark _)) (pss_one (ps_set (i := 7) sc_done.nd rfl (.inl rfl) (pe_call C__law_form.g hr (by rfl) C__law_form.m C__law_form.k C__law_form.b .nil pass0 (pa_cons (pv 0) (pa_cons (pe_op op_catA (pe_slice (sl_tupG (K := K) rfl) (pv 5) po_none (po_some pe_int)) (pe_callTy call_tuple_of (by rfl) m_tuple (by decide +kernel) (pa_cons (pe_lc (own := [("_law_one_here", 9)]) (g := gName 9) (tt := tYes) rfl sc_done.nd (pi_list (pv 6)) (blkOk_by (N := n_done) (sc := defScope s_done) (by decide +kernel)) (fun _ _ _ _ _ => pg_name (i := 9) sc_done.nd rfl (Or.inl rfl)) (fun _ _ _ _ _ => pts_nil) (fun _ _ _ _ _ => (pe_ix (ix_tupK (K := K) rfl) (pv 9) pe_int (fun _ _ => rfl)))) pa_nil))) pa_nil))))) pss_nil) (pss_one (ps_dput (hu_of hr) (pv 3) (pe_ix ix_tup (pv 5) pe_int (fun _ _ => rfl)) (pe_tup (pa_cons (pv 7) (pa_cons (pe_and (pe_cmpR op_ne (pe_ix ix_tup (pv 5) pe_int (fun _ _ => rfl)) pe_str (nomark _)) (pe_one (pe_or (pe_ix ix_tup (pe_ix ix_list (pv 6) pe_int (fun _ _ => rfl)) pe_int (fun _ _ => rfl)) (pe_one (pe_ix ix_tup (pe_ix ix_list (pv 6) (pe_un un_neg pe_int) (fun _ _ => rfl)) pe_int (fun _ _ => rfl)))))) pa_nil))) rfl)))))))))))) (pss_one (ps_ret (pe_tup (pa_cons (pv 4) (pa_cons (pe_lock (pe_lc (own := [("_law_box", 8)]) (g := gName 8) rfl sc_done.nd (pi_keys (pv 3)) (blkOk_by (N := n_done) (sc := defScope s_done) (by decide +kernel)) (fun _ _ _ _ _ => pg_name (i := 8) sc_done.nd rfl (Or.inl rfl)) (fun _ _ _ _ _ => pts_one (pt_val (pe_ix (ix_tupK (K := K) rfl) (pe_dget (hu_of hr) (pv 3) (pv 8) (fun _ _ => rfl)) pe_int (fun _ _ => rfl)))) (fun _ _ _ _ _ => (pv 8)))) pa_nil))))))))), ?_⟩
    refine ⟨.ref kn, rfl, (by show 2 ≤ sizeLine; decide), fun t1 nt1 => ?_⟩
    obtain ⟨y1, g1⟩ := nw46 (o := .tup ((kyN "number" 0).map kV)) nt1
    refine ⟨kn, t1, kyN "number" 0, ks, rfl, y1.a kn _ (by simp) hkn (fun _ z => by cases z), g1, by omega, fun H1 x1 k1 => ?_⟩
    have x01 : Ex [kn] H H1 := y1.nil.trans x1
    refine ⟨(by show 2 ≤ sizeLine; decide), fun t0 nt0 => ?_⟩
    obtain ⟨y2, g2⟩ := nw46 (o := .tup [.int ((lform ks (kyN "number" 0)).2 : Nat), .bl false]) nt0
    have k2 := y2.a kn _ (by simp) k1 (fun _ z => by cases z)
    have x02 : Ex [kn] H (upd H1 t0 (.tup [.int ((lform ks (kyN "number" 0)).2 : Nat), .bl false])) := x01.trans y2.nil
    have z0 : PrT (upd H1 t0 (.tup [.int ((lform ks (kyN "number" 0)).2 : Nat), .bl false])) (.ref t0) ((lform ks (kyN "number" 0)).2, false) := ⟨t0, rfl, g2⟩
    generalize upd H1 t0 (.tup [.int ((lform ks (kyN "number" 0)).2 : Nat), .bl false]) = H2 at k2 x02 z0 ⊢
    clear x1 k1 y1 y2 g1 g2 nt0 nt1 x01
    refine ⟨tk, fun hd nhd => ?_⟩
    have kd : hd ≠ kn := fun z => by rw [z, k2] at nhd; cases nhd
    have nhd0 : H hd = none := x02.f _ nhd
    obtain ⟨y3, g3⟩ := nw46 (o := cond tk (.dK []) (.dT [])) nhd
    have k3 := y3.a kn _ (by simp) k2 (fun _ z => by cases z)
    have v3 : HvH (upd H2 hd (cond tk (.dK []) (.dT []))) hd tk [] := ⟨[], ⟨by simp, by rw [g3]; cases tk <;> rfl⟩, .nil⟩
    have x03 := x02.trans y3.nil
    have z3 := z0.ex y3
    generalize upd H2 hd (cond tk (.dK []) (.dT [])) = H3 at k3 v3 x03 z3 ⊢
    refine ⟨Nat.zero_le _, fun dl ndl => ?_⟩
    have dk : dl ≠ kn := fun z => by rw [z, k3] at ndl; cases ndl
    have dd : dl ≠ hd := fun z => by obtain ⟨dv, h1, _⟩ := v3; rw [z, h1.2] at ndl; cases ndl
    have ndl0 : H dl = none := x03.f _ ndl
    obtain ⟨y4, g4⟩ := nw46 (o := .lst []) ndl
    have k4 := y4.a kn _ (by simp) k3 (fun _ z => by cases z)
    have v4 := v3.ex y4 (by simp)
    have x04 := x03.trans y4.nil
    have z4 := z3.ex y4
    have L4 : LdH K kn hd dl tk ⟨(lform ks (kyN "number" 0)).1, [], []⟩ (upd H3 dl (.lst [])) := ⟨k4, v4, [], g4, .nil⟩
    generalize upd H3 dl (.lst []) = H4 at k4 v4 x04 z4 g4 L4 ⊢
    have nd0 : ((⟨(lform ks (kyN "number" 0)).1, [], []⟩ : Ld).hv.map (·.1)).Nodup := List.nodup_nil
    have ok0 : LdOk 2001 0 0 ⟨(lform ks (kyN "number" 0)).1, [], []⟩ := ⟨Nat.le_trans (lform_len _ _) (by omega), Nat.le_refl _, Nat.le_refl _⟩
    generalize (lform ks (kyN "number" 0)).2 = n0 at q z4 ⊢
    generalize (⟨(lform ks (kyN "number" 0)).1, [], []⟩ : Ld) = l0 at q L4 ok0 nd0
    clear z0 z3 v3 v4 k2 k3 k4 g3 g4 x02 x03 y3 y4
    have lws : xs.length = ws.length := hws.len
    have onto : ∀ {H' : Hp}, Ex [kn, hd, dl] H4 H' → Ex [kn] H H' := fun x => ex_onto (fun z hz => by
      simp only [List.mem_cons, List.not_mem_nil, or_false] at hz
      rcases hz with rfl | rfl | rfl
      · exact .inl (by simp)
      · exact .inr nhd0
      · exact .inr ndl0) x04 x
    have rst : ∃ (J : It) (G : Hp → Prop), SeqW K r xs J G ∧ G H4 ∧ ∀ H', Ex [kn, hd, dl] H4 H' → G H' := by
      rcases hr0 with hr1 | hr1
      · exact ⟨_, _, .inr ⟨rfl, rfl⟩, x04.seqT hr1, fun H' x => x.seqT (x04.seqT hr1)⟩
      · have r1 : r ≠ kn := ne_of hr1 hkn (by intro z; cases z)
        have r2 : r ≠ hd := fun z => by rw [z, nhd0] at hr1; cases hr1
        have r3 : r ≠ dl := fun z => by rw [z, ndl0] at hr1; cases hr1
        exact ⟨_, _, .inl ⟨rfl, rfl⟩, .of (x04.lst hr1 (by simpa using r1)), fun H' x => .of (x.lst (x04.lst hr1 (by simpa using r1)) (by simp [r1, r2, r3]))⟩
    obtain ⟨J, G, sw, G4, stay⟩ := rst
    refine ⟨.ref r, rfl, r, xs, J, G, rfl, sw, G4, ?_⟩
    refine for_it sw.walk (fun i σ H5 => ∃ (y5 y6 y7 : Option V) (l : Ld), σ = [some (.ref kn), some (.ref r), some (.ref t0), some (.ref hd), some (.ref dl), y5, y6, y7, none, none] ∧ l = runL n0 l0 (ws.take i) ∧ LdH K kn hd dl tk l H5 ∧ PrT H5 (.ref t0) (n0, false) ∧ Ex [kn, hd, dl] H4 H5) ?_ ?_ ?_ ?_
    · exact ⟨_, _, _, _, rfl, rfl, L4, z4, .refl⟩
    · rintro i σ H5 _ ⟨y5, y6, y7, l, _, _, _, _, x5⟩
      exact stay H5 x5
    · rintro i v σ H0 H5 hi ⟨y5, y6, y7, l, rfl, el, hL, hZ, x5⟩ ⟨rfl, hx⟩
      obtain ⟨W, hW1, hW2⟩ := hws.getL hx
      have kw := hkd W (List.mem_of_getElem? hW1)
      obtain ⟨a, wxs, rfl, hs, hwx⟩ : WoH K H5 v W := hW2.ex (onto x5)
      have hi2 : i < ws.length := by rw [← lws]; exact hi
      have lok : LdOk 2001 0 (ws.take i).length l := by rw [el]; exact runL_ok ok0 _
      rw [List.length_take, Nat.min_eq_left (Nat.le_of_lt hi2)] at lok
      obtain ⟨lk1, lk2, lk3⟩ := lok
      have enx : stepL n0 l W = runL n0 l0 (ws.take (i + 1)) := by rw [List.take_add_one, hW1, el]; exact (runL_snoc _ _ _ _).symm
      have fin : ∀ {H6 : Hp} {y6 y7 : Option V} {l' : Ld}, l' = stepL n0 l W → LdH K kn hd dl tk l' H6 → Ex [kn, hd, dl] H5 H6 → ∃ (z5 z6 z7 : Option V) (l : Ld), [some (V.ref kn), some (.ref r), some (.ref t0), some (.ref hd), some (.ref dl), some (.ref a), y6, y7, none, none] = [some (.ref kn), some (.ref r), some (.ref t0), some (.ref hd), some (.ref dl), z5, z6, z7, none, none] ∧ l = runL n0 l0 (ws.take (i + 1)) ∧ LdH K kn hd dl tk l H6 ∧ PrT H6 (.ref t0) (n0, false) ∧ Ex [kn, hd, dl] H4 H6 := fun e h6 x6 => ⟨_, _, _, _, rfl, e.trans enx, h6, hZ.ex x6, x5.trans x6⟩
      clear enx
      have y : Ex [kn, hd, dl] H5 H5 := .refl
      have finA : ∀ {Hx H6 : Hp} {y6 y7 : Option V} {l' : Ld}, Ex [kn, hd, dl] H5 Hx → Ex [kn, hd, dl] Hx H6 → l' = stepL n0 l W → LdH K kn hd dl tk l' H6 → ∃ (z5 z6 z7 : Option V) (l : Ld), [some (V.ref kn), some (.ref r), some (.ref t0), some (.ref hd), some (.ref dl), some (.ref a), y6, y7, none, none] = [some (.ref kn), some (.ref r), some (.ref t0), some (.ref hd), some (.ref dl), z5, z6, z7, none, none] ∧ l = runL n0 l0 (ws.take (i + 1)) ∧ LdH K kn hd dl tk l H6 ∧ PrT H6 (.ref t0) (n0, false) ∧ Ex [kn, hd, dl] H4 H6 := fun a b e h => fin e h (a.trans b)
      clear fin
      have putS : ∀ {Hx : Hp} {l1 : Ld} {t4 : Addr} {p : Nat × Bool} {bv : V}, LdH K kn hd dl tk l1 Hx → l1.hv.length ≤ 5000 → Hx t4 = some (.tup [.int p.1, .bl p.2]) → BxT Hx bv (boxW W) → ∃ H', DPut Hx hd bv (.ref t4) H' ∧ Ex [kn, hd, dl] Hx H' ∧ LdH K kn hd dl tk ⟨l1.ks, stB l1.hv (boxW W) p, l1.ds⟩ H' := fun hl le ht hb => by
        obtain ⟨H', d1, d2, d3⟩ := hl.v.put (u := .ref _) kw.1 hb ⟨_, rfl, ht⟩ le
        exact ⟨H', d1, d2.mono (by simp), hl.putV d2 d3 kd dd⟩
      have m1 : ∀ {Ha Hb : Hp}, Ex [kn] Ha Hb → Ex [kn, hd, dl] Ha Hb := fun x => x.mono (by simp)
      have m3 : ∀ {Ha Hb : Hp}, Ex [dl] Ha Hb → Ex [kn, hd, dl] Ha Hb := fun x => x.mono (by simp)
      cases W with
      | take b' s =>
        obtain ⟨bv, rfl, hb⟩ := id hwx
        refine ⟨.ref a, rfl, a, _, 0, _, rfl, rfl, hs, at0, (by show 2 ≤ sizeLine; decide), fun U1 nU1 => ?_⟩
        obtain ⟨w1, g1⟩ := nw46 (o := .tup [V.str (Str.ofString "take"), V.str (Str.ofString "ask")]) nU1
        refine ⟨U1, _, rfl, .inr (.of g1), rfl, rfl, _, rfl, inY (by decide +kernel) ?_⟩
        have hs := w1.seqT hs
        have hL := hL.nil w1
        have hZ := hZ.ex w1
        have y := y.trans w1.nil
        have hwx := hwx.ex w1
        generalize upd _ U1 (HO.tup [V.str (Str.ofString "take"), V.str (Str.ofString "ask")]) = H61 at w1 g1 hs hL hZ y hwx ⊢
        have hb := (show BxT H61 bv b' by obtain ⟨v2, e2, h2⟩ := hwx; cases e2; exact h2)
        obtain ⟨us, hus, tus⟩ := hL.d
        refine ⟨.ref dl, rfl, .inl ⟨rfl, _, .of hus⟩, .ref a, rfl, 1, rfl, a, _, _, rfl, hs, cutTo 1, fun p1 H7 x7 s7 => ⟨.ref a, rfl, 2, rfl, a, _, _, rfl, x7.seqT hs, cutN 2, fun p2 H8 x8 s8 => ⟨p1, p2, _, _, rfl, rfl, x8.seqT s7, s8, (by simp; decide), fun p3 H9 x9 s9 => ?_⟩⟩⟩
        have x69 := (x7.trans x8).trans x9
        have hL9 := hL.nil x69
        have hus9 := x69.lst hus
        refine ⟨dl, us, _, rfl, rfl, hus9, by rw [tus.len]; exact Nat.lt_of_le_of_lt (show l.ds.length ≤ 2000 by omega) (by decide), ?_⟩
        obtain ⟨xp, hL10⟩ := hL9.app (v := .ref p3) (d := .tuple [.str (Str.ofString "take"), .str s]) hus9 (.tup s9 (.cons (.str _) (.cons (.str _) .nil))) dd dk
        have hdl10 : (upd H9 dl (.lst (us ++ [.ref p3]))) dl = some (.lst (us ++ [.ref p3])) := upd_same
        have y10 := (y.trans x69.nil).trans (m3 xp)
        have hs10 := xp.seqT (x69.seqT hs)
        have hb10 := (hb.ex x69).ex xp
        generalize upd H9 dl (.lst (us ++ [.ref p3])) = H10 at xp hL10 hdl10 y10 hs10 hb10 ⊢
        refine ⟨.ref kn, rfl, .ref dl, rfl, dl, _, rfl, .inl (.of hdl10), (by show 2 ≤ sizeLine; decide), fun t3 nt3 => ?_⟩
        have el : (us ++ [V.ref p3]).length = l.ds.length + 1 := by rw [List.length_append, tus.len]; rfl
        rw [el]
        obtain ⟨y3, g3⟩ := nw46 (o := .tup ((kyN "came" (l.ds.length + 1 : Nat)).map kV)) nt3
        have hL11 := hL10.nil y3
        refine ⟨kn, t3, kyN "came" (l.ds.length + 1 : Nat), l.ks, rfl, hL11.k, g3, by omega, fun H12 x12 k12 => ?_⟩
        have hL12 := hL11.form x12 k12 kd dk
        have hs12 := x12.seqT (y3.seqT hs10)
        refine ⟨.ref a, rfl, a, _, 0, _, rfl, rfl, hs12, at0, rfl, (by show 2 ≤ sizeLine; decide), fun t4 nt4 => ?_⟩
        rw [show decide (V.str (Str.ofString "take") = V.str (Str.ofString "take")) = true by exact decide_eq_true rfl]
        obtain ⟨y4, g4⟩ := nw46 (o := .tup [.int ((lform l.ks (kyN "came" (l.ds.length + 1 : Nat))).2 : Nat), .bl true]) nt4
        have hL13 := hL12.nil y4
        obtain ⟨H14, d14, x14, hL14⟩ := putS (p := ((lform l.ks (kyN "came" (l.ds.length + 1 : Nat))).2, true)) hL13 (show l.hv.length ≤ 5000 by omega) g4 (((hb10.ex y3).ex x12).ex y4)
        refine ⟨.ref hd, rfl, .ref a, rfl, a, _, 1, _, rfl, rfl, y4.seqT hs12, at1, hd, H14, rfl, d14, ?_⟩
        exact finA y10 (y3.nil.trans ((m1 x12).trans (y4.nil.trans x14))) rfl hL14
      | ask b' =>
        obtain ⟨bv, rfl, hb⟩ := id hwx
        refine ⟨.ref a, rfl, a, _, 0, _, rfl, rfl, hs, at0, (by show 2 ≤ sizeLine; decide), fun U1 nU1 => ?_⟩
        obtain ⟨w1, g1⟩ := nw46 (o := .tup [V.str (Str.ofString "take"), V.str (Str.ofString "ask")]) nU1
        refine ⟨U1, _, rfl, .inr (.of g1), rfl, rfl, _, rfl, inY (by decide +kernel) ?_⟩
        have hs := w1.seqT hs
        have hL := hL.nil w1
        have hZ := hZ.ex w1
        have y := y.trans w1.nil
        have hwx := hwx.ex w1
        generalize upd _ U1 (HO.tup [V.str (Str.ofString "take"), V.str (Str.ofString "ask")]) = H61 at w1 g1 hs hL hZ y hwx ⊢
        have hb := (show BxT H61 bv b' by obtain ⟨v2, e2, h2⟩ := hwx; cases e2; exact h2)
        obtain ⟨us, hus, tus⟩ := hL.d
        refine ⟨.ref dl, rfl, .inl ⟨rfl, _, .of hus⟩, .ref a, rfl, 1, rfl, a, _, _, rfl, hs, cutTo 1, fun p1 H7 x7 s7 => ⟨.ref a, rfl, 2, rfl, a, _, _, rfl, x7.seqT hs, cutN 2, fun p2 H8 x8 s8 => ⟨p1, p2, _, _, rfl, rfl, x8.seqT s7, s8, (by simp; decide), fun p3 H9 x9 s9 => ?_⟩⟩⟩
        have x69 := (x7.trans x8).trans x9
        have hL9 := hL.nil x69
        have hus9 := x69.lst hus
        refine ⟨dl, us, _, rfl, rfl, hus9, by rw [tus.len]; exact Nat.lt_of_le_of_lt (show l.ds.length ≤ 2000 by omega) (by decide), ?_⟩
        obtain ⟨xp, hL10⟩ := hL9.app (v := .ref p3) (d := .tuple [.str (Str.ofString "ask")]) hus9 (.tup s9 (.cons (.str _) .nil)) dd dk
        have hdl10 : (upd H9 dl (.lst (us ++ [.ref p3]))) dl = some (.lst (us ++ [.ref p3])) := upd_same
        have y10 := (y.trans x69.nil).trans (m3 xp)
        have hs10 := xp.seqT (x69.seqT hs)
        have hb10 := (hb.ex x69).ex xp
        generalize upd H9 dl (.lst (us ++ [.ref p3])) = H10 at xp hL10 hdl10 y10 hs10 hb10 ⊢
        refine ⟨.ref kn, rfl, .ref dl, rfl, dl, _, rfl, .inl (.of hdl10), (by show 2 ≤ sizeLine; decide), fun t3 nt3 => ?_⟩
        have el : (us ++ [V.ref p3]).length = l.ds.length + 1 := by rw [List.length_append, tus.len]; rfl
        rw [el]
        obtain ⟨y3, g3⟩ := nw46 (o := .tup ((kyN "came" (l.ds.length + 1 : Nat)).map kV)) nt3
        have hL11 := hL10.nil y3
        refine ⟨kn, t3, kyN "came" (l.ds.length + 1 : Nat), l.ks, rfl, hL11.k, g3, by omega, fun H12 x12 k12 => ?_⟩
        have hL12 := hL11.form x12 k12 kd dk
        have hs12 := x12.seqT (y3.seqT hs10)
        refine ⟨.ref a, rfl, a, _, 0, _, rfl, rfl, hs12, at0, rfl, (by show 2 ≤ sizeLine; decide), fun t4 nt4 => ?_⟩
        rw [show decide (V.str (Str.ofString "ask") = V.str (Str.ofString "take")) = false by exact decide_eq_false (by decide +kernel)]
        obtain ⟨y4, g4⟩ := nw46 (o := .tup [.int ((lform l.ks (kyN "came" (l.ds.length + 1 : Nat))).2 : Nat), .bl false]) nt4
        have hL13 := hL12.nil y4
        obtain ⟨H14, d14, x14, hL14⟩ := putS (p := ((lform l.ks (kyN "came" (l.ds.length + 1 : Nat))).2, false)) hL13 (show l.hv.length ≤ 5000 by omega) g4 (((hb10.ex y3).ex x12).ex y4)
        refine ⟨.ref hd, rfl, .ref a, rfl, a, _, 1, _, rfl, rfl, y4.seqT hs12, at1, hd, H14, rfl, d14, ?_⟩
        exact finA y10 (y3.nil.trans ((m1 x12).trans (y4.nil.trans x14))) rfl hL14
      | tell b' =>
        obtain ⟨bv, rfl, hb⟩ := id hwx
        refine ⟨.ref a, rfl, a, _, 0, _, rfl, rfl, hs, at0, (by show 2 ≤ sizeLine; decide), fun U1 nU1 => ?_⟩
        obtain ⟨w1, g1⟩ := nw46 (o := .tup [V.str (Str.ofString "take"), V.str (Str.ofString "ask")]) nU1
        refine ⟨U1, _, rfl, .inr (.of g1), rfl, rfl, _, rfl, inN (by decide +kernel) ?_⟩
        have hs := w1.seqT hs
        have hL := hL.nil w1
        have hZ := hZ.ex w1
        have y := y.trans w1.nil
        have hwx := hwx.ex w1
        generalize upd _ U1 (HO.tup [V.str (Str.ofString "take"), V.str (Str.ofString "ask")]) = H61 at w1 g1 hs hL hZ y hwx ⊢
        have hb := (show BxT H61 bv b' by obtain ⟨v2, e2, h2⟩ := hwx; cases e2; exact h2)
        refine ⟨.ref a, rfl, a, _, 0, _, rfl, rfl, hs, at0, rfl, _, rfl, sY ?_⟩
        obtain ⟨us, hus, tus⟩ := hL.d
        obtain ⟨og, dg, pg⟩ := hL.v.get kw.1 hb hZ
        obtain ⟨tg, etg, htg⟩ := pg
        refine ⟨.ref dl, rfl, .inl ⟨rfl, _, .of hus⟩, .ref hd, rfl, hd, rfl, hL.v.isD, .ref a, rfl, a, _, 1, _, rfl, rfl, hs, at1, .ref t0, rfl, og, dg, ?_⟩
        refine ⟨tg, _, 0, _, etg, rfl, .of htg, at0, (by show 2 ≤ sizeLine; decide), fun t4 nt4 => ?_⟩
        obtain ⟨y4, g4⟩ := nw46 (o := .tup [.str (Str.ofString "tell"), .int ((hg n0 l.hv b').1 : Nat)]) nt4
        have hL4 := hL.nil y4
        have hus4 := y4.lst hus
        obtain ⟨xp, hL10⟩ := hL4.app (v := .ref t4) (d := .tuple [.str (Str.ofString "tell"), .int (hg n0 l.hv b').1]) hus4 (.tup (.of g4) (.cons (.str _) (.cons (.int _) .nil))) dd dk
        exact ⟨dl, us, _, rfl, rfl, hus4, by rw [tus.len]; exact Nat.lt_of_le_of_lt (show l.ds.length ≤ 2000 by omega) (by decide), finA y (y4.nil.trans (m3 xp)) rfl hL10⟩
      | number b' m =>
        obtain ⟨bv, rfl, hb⟩ := id hwx
        refine ⟨.ref a, rfl, a, _, 0, _, rfl, rfl, hs, at0, (by show 2 ≤ sizeLine; decide), fun U1 nU1 => ?_⟩
        obtain ⟨w1, g1⟩ := nw46 (o := .tup [V.str (Str.ofString "take"), V.str (Str.ofString "ask")]) nU1
        refine ⟨U1, _, rfl, .inr (.of g1), rfl, rfl, _, rfl, inN (by decide +kernel) ?_⟩
        have hs := w1.seqT hs
        have hL := hL.nil w1
        have hZ := hZ.ex w1
        have y := y.trans w1.nil
        have hwx := hwx.ex w1
        generalize upd _ U1 (HO.tup [V.str (Str.ofString "take"), V.str (Str.ofString "ask")]) = H61 at w1 g1 hs hL hZ y hwx ⊢
        refine ⟨.ref a, rfl, a, _, 0, _, rfl, rfl, hs, at0, rfl, _, rfl, sN (by decide +kernel) ?_⟩
        refine ⟨.ref a, rfl, a, _, 0, _, rfl, rfl, hs, at0, (by show 2 ≤ sizeLine; decide), fun U2 nU2 => ?_⟩
        obtain ⟨w2, g2⟩ := nw46 (o := .tup [V.str (Str.ofString "number"), V.str (Str.ofString "wipe")]) nU2
        refine ⟨U2, _, rfl, .inr (.of g2), rfl, rfl, _, rfl, inY (by decide +kernel) ?_⟩
        have hs := w2.seqT hs
        have hL := hL.nil w2
        have hZ := hZ.ex w2
        have y := y.trans w2.nil
        have hwx := hwx.ex w2
        generalize upd _ U2 (HO.tup [V.str (Str.ofString "number"), V.str (Str.ofString "wipe")]) = H62 at w2 g2 hs hL hZ y hwx ⊢
        have hb := (show BxT H62 bv b' by obtain ⟨v2, e2, h2⟩ := hwx; cases e2; exact h2)
        refine ⟨.ref kn, rfl, .ref a, rfl, (by show 1 ≤ sizeLine; decide), fun t1 nt1 => ?_⟩
        obtain ⟨y1, g1⟩ := nw46 (o := .tup [.int 0]) nt1
        refine ⟨a, t1, _, _, rfl, rfl, y1.seqT hs, .of g1, (by simp; decide), fun p3 H9 x9 s9 => ?_⟩
        refine ⟨p3, _, 2, _, rfl, rfl, s9, at2, (by show 2 ≤ sizeLine; decide), fun t3 nt3 => ?_⟩
        obtain ⟨y3, g3⟩ := nw46 (o := .tup ((kyN "number" m).map kV)) nt3
        have x13 := (y1.trans x9).trans y3
        have hL11 := hL.nil x13
        refine ⟨kn, t3, kyN "number" m, l.ks, rfl, hL11.k, g3, by omega, fun H12 x12 k12 => ?_⟩
        have hL12 := hL11.form x12 k12 kd dk
        have hs12 := x12.seqT (x13.seqT hs)
        refine ⟨(by show 2 ≤ sizeLine; decide), fun t4 nt4 => ?_⟩
        obtain ⟨y4, g4⟩ := nw46 (o := .tup [.int ((lform l.ks (kyN "number" m)).2 : Nat), .bl false]) nt4
        have hL13 := hL12.nil y4
        obtain ⟨H14, d14, x14, hL14⟩ := putS (p := ((lform l.ks (kyN "number" m)).2, false)) hL13 (show l.hv.length ≤ 5000 by omega) g4 (((hb.ex x13).ex x12).ex y4)
        refine ⟨.ref hd, rfl, .ref a, rfl, a, _, 1, _, rfl, rfl, y4.seqT hs12, at1, hd, H14, rfl, d14, ?_⟩
        exact finA y (x13.nil.trans ((m1 x12).trans (y4.nil.trans x14))) rfl hL14
      | wipe b' =>
        obtain ⟨bv, rfl, hb⟩ := id hwx
        refine ⟨.ref a, rfl, a, _, 0, _, rfl, rfl, hs, at0, (by show 2 ≤ sizeLine; decide), fun U1 nU1 => ?_⟩
        obtain ⟨w1, g1⟩ := nw46 (o := .tup [V.str (Str.ofString "take"), V.str (Str.ofString "ask")]) nU1
        refine ⟨U1, _, rfl, .inr (.of g1), rfl, rfl, _, rfl, inN (by decide +kernel) ?_⟩
        have hs := w1.seqT hs
        have hL := hL.nil w1
        have hZ := hZ.ex w1
        have y := y.trans w1.nil
        have hwx := hwx.ex w1
        generalize upd _ U1 (HO.tup [V.str (Str.ofString "take"), V.str (Str.ofString "ask")]) = H61 at w1 g1 hs hL hZ y hwx ⊢
        refine ⟨.ref a, rfl, a, _, 0, _, rfl, rfl, hs, at0, rfl, _, rfl, sN (by decide +kernel) ?_⟩
        refine ⟨.ref a, rfl, a, _, 0, _, rfl, rfl, hs, at0, (by show 2 ≤ sizeLine; decide), fun U2 nU2 => ?_⟩
        obtain ⟨w2, g2⟩ := nw46 (o := .tup [V.str (Str.ofString "number"), V.str (Str.ofString "wipe")]) nU2
        refine ⟨U2, _, rfl, .inr (.of g2), rfl, rfl, _, rfl, inY (by decide +kernel) ?_⟩
        have hs := w2.seqT hs
        have hL := hL.nil w2
        have hZ := hZ.ex w2
        have y := y.trans w2.nil
        have hwx := hwx.ex w2
        generalize upd _ U2 (HO.tup [V.str (Str.ofString "number"), V.str (Str.ofString "wipe")]) = H62 at w2 g2 hs hL hZ y hwx ⊢
        have hb := (show BxT H62 bv b' by obtain ⟨v2, e2, h2⟩ := hwx; cases e2; exact h2)
        refine ⟨.ref kn, rfl, .ref a, rfl, (by show 1 ≤ sizeLine; decide), fun t1 nt1 => ?_⟩
        obtain ⟨y1, g1⟩ := nw46 (o := .tup [.int 0]) nt1
        refine ⟨a, t1, _, _, rfl, rfl, y1.seqT hs, .of g1, (by simp; decide), fun p3 H9 x9 s9 => ?_⟩
        refine ⟨p3, _, 2, _, rfl, rfl, s9, at2, (by show 2 ≤ sizeLine; decide), fun t3 nt3 => ?_⟩
        obtain ⟨y3, g3⟩ := nw46 (o := .tup ((kyN "number" 0).map kV)) nt3
        have x13 := (y1.trans x9).trans y3
        have hL11 := hL.nil x13
        refine ⟨kn, t3, kyN "number" 0, l.ks, rfl, hL11.k, g3, by omega, fun H12 x12 k12 => ?_⟩
        have hL12 := hL11.form x12 k12 kd dk
        have hs12 := x12.seqT (x13.seqT hs)
        refine ⟨(by show 2 ≤ sizeLine; decide), fun t4 nt4 => ?_⟩
        obtain ⟨y4, g4⟩ := nw46 (o := .tup [.int ((lform l.ks (kyN "number" 0)).2 : Nat), .bl false]) nt4
        have hL13 := hL12.nil y4
        obtain ⟨H14, d14, x14, hL14⟩ := putS (p := ((lform l.ks (kyN "number" 0)).2, false)) hL13 (show l.hv.length ≤ 5000 by omega) g4 (((hb.ex x13).ex x12).ex y4)
        refine ⟨.ref hd, rfl, .ref a, rfl, a, _, 1, _, rfl, rfl, y4.seqT hs12, at1, hd, H14, rfl, d14, ?_⟩
        exact finA y (x13.nil.trans ((m1 x12).trans (y4.nil.trans x14))) rfl hL14
      | copy b' c =>
        obtain ⟨bv, u, rfl, hb, _⟩ := id hwx
        refine ⟨.ref a, rfl, a, _, 0, _, rfl, rfl, hs, at0, (by show 2 ≤ sizeLine; decide), fun U1 nU1 => ?_⟩
        obtain ⟨w1, g1⟩ := nw46 (o := .tup [V.str (Str.ofString "take"), V.str (Str.ofString "ask")]) nU1
        refine ⟨U1, _, rfl, .inr (.of g1), rfl, rfl, _, rfl, inN (by decide +kernel) ?_⟩
        have hs := w1.seqT hs
        have hL := hL.nil w1
        have hZ := hZ.ex w1
        have y := y.trans w1.nil
        have hwx := hwx.ex w1
        generalize upd _ U1 (HO.tup [V.str (Str.ofString "take"), V.str (Str.ofString "ask")]) = H61 at w1 g1 hs hL hZ y hwx ⊢
        refine ⟨.ref a, rfl, a, _, 0, _, rfl, rfl, hs, at0, rfl, _, rfl, sN (by decide +kernel) ?_⟩
        refine ⟨.ref a, rfl, a, _, 0, _, rfl, rfl, hs, at0, (by show 2 ≤ sizeLine; decide), fun U2 nU2 => ?_⟩
        obtain ⟨w2, g2⟩ := nw46 (o := .tup [V.str (Str.ofString "number"), V.str (Str.ofString "wipe")]) nU2
        refine ⟨U2, _, rfl, .inr (.of g2), rfl, rfl, _, rfl, inN (by decide +kernel) ?_⟩
        have hs := w2.seqT hs
        have hL := hL.nil w2
        have hZ := hZ.ex w2
        have y := y.trans w2.nil
        have hwx := hwx.ex w2
        generalize upd _ U2 (HO.tup [V.str (Str.ofString "number"), V.str (Str.ofString "wipe")]) = H62 at w2 g2 hs hL hZ y hwx ⊢
        have hbb : BxT H62 bv b' ∧ P2 (BxT H62) [u] [c] := by
          obtain ⟨v1, u1, e2, h0, h1⟩ := hwx
          cases e2
          exact ⟨h0, .cons h1 .nil⟩
        obtain ⟨hb, hp⟩ := hbb
        refine ⟨.ref a, rfl, 2, rfl, a, _, _, rfl, hs, cutN 2, fun p1 H7 x7 s7 => ⟨p1, rfl, ⟨_, s7⟩, fun L nL => ?_⟩⟩
        obtain ⟨yL, hLL⟩ := nw46 (o := .lst []) nL
        have x07 := x7.trans yL
        have hL7 := hL.nil x07
        have hZ7 := hZ.ex x07
        have Lhd : hd ≠ L := fun e => by
          obtain ⟨dv, h1, _⟩ := (hL.nil x7).v
          rw [← e, h1.2] at nL; cases nL
        have Lkn : kn ≠ L := fun e => by rw [← e, (hL.nil x7).k] at nL; cases nL
        have Ldl : dl ≠ L := fun e => by
          obtain ⟨us, h1, _⟩ := (hL.nil x7).d
          rw [← e, h1] at nL; cases nL
        have nL5 := nL
        refine lc_it (walk_tup (K := K) (a := p1) (xs := [u])) (fun i H9 => ∃ acc, H9 L = some (.lst acc) ∧ P2 (PrT H9) acc (([c].take i).map (hg n0 l.hv)) ∧ acc.length ≤ i ∧ Ex [L] (upd H7 L (.lst [])) H9) ⟨[], hLL, .nil, Nat.le_refl _, .refl⟩ ?_ ?_ ?_
        · rintro i H9 _ ⟨acc, _, _, _, x9⟩
          exact x9.seqT (yL.seqT s7)
        · rintro i v H0 H9 hi ⟨acc, h9, p9, la9, x9⟩ ⟨rfl, hx9⟩
          obtain ⟨q9, hq1, hq2⟩ := hp.getL hx9
          have v9 : HvH H9 hd tk l.hv := hL7.v.ex x9 (by simpa using Lhd)
          have kq : isS q9 = tk := kw.2 q9 (List.mem_of_getElem? hq1)
          obtain ⟨og, dg, pg⟩ := v9.get kq ((hq2.ex x07).ex x9) (hZ7.ex x9)
          have li : i < 2 := by
            have h1 : i < [u].length := hi
            simp at h1; omega
          refine ⟨rfl, tyes_if ⟨.ref hd, rfl, hd, rfl, v9.isD, v, rfl, .ref t0, rfl, og, dg, acc, h9, Nat.lt_of_lt_of_le (show acc.length < 3 by omega) (by decide), acc ++ [og.getD (.ref t0)], upd_same, ?_, ?_, ?_⟩⟩
          · rw [List.take_add_one, hq1, List.map_append]
            have xp : Ex [L] H9 (upd H9 L (.lst (acc ++ [og.getD (.ref t0)]))) := .put h9 nt_lst (by simp)
            exact (p9.app (.cons pg .nil)).imp fun _ _ q => q.ex xp
          · rw [List.length_append, List.length_singleton]; omega
          · exact x9.trans (.put h9 nt_lst (by simp))
        rintro H9 ⟨acc, h9, p9, la9, x9⟩
        have p9 : P2 (PrT H9) acc ([c].map (hg n0 l.hv)) := p9
        have x69 : Ex [] H62 H9 := Ex.own (x7.f _ nL5) x07 x9
        have hs := x69.seqT hs
        have hL := hL.nil x69
        have hZ := hZ.ex x69
        have y := y.trans x69.nil
        have hb := hb.ex x69
        clear x7 yL x07 hL7 hZ7 x9 nL nL5 hLL hp
        cases p9 with
        | cons r0 r1 =>
        cases r1
        obtain ⟨tg, rfl, htg⟩ := r0
        refine ⟨.ref L, rfl, L, _, 0, _, rfl, rfl, .of h9, at0, tg, _, 0, _, rfl, rfl, .of htg, at0, ?_⟩
        have fin2 : ∀ {Hy : Hp} {l1 : Ld} {nv : Nat} {bb : Bool} {y6 y7 : Option V}, Ex [kn, hd, dl] H9 Hy → LdH K kn hd dl tk l1 Hy → l1.hv.length ≤ 5000 → (⟨l1.ks, stB l1.hv b' (nv, bb), l1.ds⟩ : Ld) = stepL n0 l (.copy b' c) → ∀ t4, Hy t4 = none → ∃ H14, DPut (upd Hy t4 (.tup [.int (nv : Nat), .bl bb])) hd bv (.ref t4) H14 ∧ ∃ (z5 z6 z7 : Option V) (l : Ld), [some (V.ref kn), some (.ref r), some (.ref t0), some (.ref hd), some (.ref dl), some (.ref a), y6, y7, none, none] = [some (.ref kn), some (.ref r), some (.ref t0), some (.ref hd), some (.ref dl), z5, z6, z7, none, none] ∧ l = runL n0 l0 (ws.take (i + 1)) ∧ LdH K kn hd dl tk l H14 ∧ PrT H14 (.ref t0) (n0, false) ∧ Ex [kn, hd, dl] H4 H14 := fun xh hl le e t4 nt4 => by
          obtain ⟨y4, g4⟩ := nw46 (o := .tup [.int (_ : Nat), .bl _]) nt4
          obtain ⟨H14, d14, x14, hL14⟩ := putS (p := (_, _)) (hl.nil y4) le g4 ((hb.ex xh).ex y4)
          exact ⟨H14, d14, finA (y.trans xh) (y4.nil.trans x14) e hL14⟩
        refine ⟨.ref a, rfl, a, _, 0, _, rfl, rfl, hs, at0, rfl, _, rfl, sNN ?_⟩
        refine ⟨_, rfl, .ref a, rfl, a, _, 0, _, rfl, rfl, hs, at0, rfl, _, rfl, sNY (by decide +kernel) ?_⟩
        refine ⟨.ref L, rfl, L, _, 0, _, rfl, rfl, .of h9, at0, tg, _, 1, _, rfl, rfl, .of htg, at1, _, rfl, ?_⟩
        cases e2 : (hg n0 l.hv c).2 with
        | true =>
          refine iteT ?_
          refine ⟨(by show 2 ≤ sizeLine; decide), fun t4 nt4 => ?_⟩
          obtain ⟨H14, d14, z14⟩ := fin2 (nv := (hg n0 l.hv c).1) (bb := true) .refl hL (show l.hv.length ≤ 5000 by omega) (by show _ = (⟨_, stB l.hv b' (hg n0 l.hv c), _⟩ : Ld); rw [← e2]) t4 nt4
          have y4 : Ex [] H9 (upd H9 t4 (.tup [.int (((hg n0 l.hv c).1 : Nat) : Int), .bl true])) := .new nt4
          exact ⟨.ref hd, rfl, .ref a, rfl, a, _, 1, _, rfl, rfl, y4.seqT hs, at1, hd, H14, rfl, d14, z14⟩
        | false =>
          refine iteF ?_
          refine ⟨.ref L, rfl, 1, rfl, L, _, _, _, rfl, rfl, .of h9, rfl, tg, _, 1, _, rfl, rfl, .of htg, at1, ?_⟩
          rw [e2]
          refine ⟨(by show 2 ≤ sizeLine; decide), fun t4 nt4 => ?_⟩
          obtain ⟨H14, d14, z14⟩ := fin2 (nv := (hg n0 l.hv c).1) (bb := false) .refl hL (show l.hv.length ≤ 5000 by omega) (by show _ = (⟨_, stB l.hv b' (hg n0 l.hv c), _⟩ : Ld); rw [← e2]) t4 nt4
          have y4 : Ex [] H9 (upd H9 t4 (.tup [.int (((hg n0 l.hv c).1 : Nat) : Int), .bl false])) := .new nt4
          exact ⟨.ref hd, rfl, .ref a, rfl, a, _, 1, _, rfl, rfl, y4.seqT hs, at1, hd, H14, rfl, d14, z14⟩
      | mix b' c d =>
        obtain ⟨bv, u, z, rfl, hb, _⟩ := id hwx
        refine ⟨.ref a, rfl, a, _, 0, _, rfl, rfl, hs, at0, (by show 2 ≤ sizeLine; decide), fun U1 nU1 => ?_⟩
        obtain ⟨w1, g1⟩ := nw46 (o := .tup [V.str (Str.ofString "take"), V.str (Str.ofString "ask")]) nU1
        refine ⟨U1, _, rfl, .inr (.of g1), rfl, rfl, _, rfl, inN (by decide +kernel) ?_⟩
        have hs := w1.seqT hs
        have hL := hL.nil w1
        have hZ := hZ.ex w1
        have y := y.trans w1.nil
        have hwx := hwx.ex w1
        generalize upd _ U1 (HO.tup [V.str (Str.ofString "take"), V.str (Str.ofString "ask")]) = H61 at w1 g1 hs hL hZ y hwx ⊢
        refine ⟨.ref a, rfl, a, _, 0, _, rfl, rfl, hs, at0, rfl, _, rfl, sN (by decide +kernel) ?_⟩
        refine ⟨.ref a, rfl, a, _, 0, _, rfl, rfl, hs, at0, (by show 2 ≤ sizeLine; decide), fun U2 nU2 => ?_⟩
        obtain ⟨w2, g2⟩ := nw46 (o := .tup [V.str (Str.ofString "number"), V.str (Str.ofString "wipe")]) nU2
        refine ⟨U2, _, rfl, .inr (.of g2), rfl, rfl, _, rfl, inN (by decide +kernel) ?_⟩
        have hs := w2.seqT hs
        have hL := hL.nil w2
        have hZ := hZ.ex w2
        have y := y.trans w2.nil
        have hwx := hwx.ex w2
        generalize upd _ U2 (HO.tup [V.str (Str.ofString "number"), V.str (Str.ofString "wipe")]) = H62 at w2 g2 hs hL hZ y hwx ⊢
        have hbb : BxT H62 bv b' ∧ P2 (BxT H62) [u, z] [c, d] := by
          obtain ⟨v1, u1, z1, e2, h0, h1, h2⟩ := hwx
          cases e2
          exact ⟨h0, .cons h1 (.cons h2 .nil)⟩
        obtain ⟨hb, hp⟩ := hbb
        refine ⟨.ref a, rfl, 2, rfl, a, _, _, rfl, hs, cutN 2, fun p1 H7 x7 s7 => ⟨p1, rfl, ⟨_, s7⟩, fun L nL => ?_⟩⟩
        obtain ⟨yL, hLL⟩ := nw46 (o := .lst []) nL
        have x07 := x7.trans yL
        have hL7 := hL.nil x07
        have hZ7 := hZ.ex x07
        have Lhd : hd ≠ L := fun e => by
          obtain ⟨dv, h1, _⟩ := (hL.nil x7).v
          rw [← e, h1.2] at nL; cases nL
        have Lkn : kn ≠ L := fun e => by rw [← e, (hL.nil x7).k] at nL; cases nL
        have Ldl : dl ≠ L := fun e => by
          obtain ⟨us, h1, _⟩ := (hL.nil x7).d
          rw [← e, h1] at nL; cases nL
        have nL5 := nL
        refine lc_it (walk_tup (K := K) (a := p1) (xs := [u, z])) (fun i H9 => ∃ acc, H9 L = some (.lst acc) ∧ P2 (PrT H9) acc (([c, d].take i).map (hg n0 l.hv)) ∧ acc.length ≤ i ∧ Ex [L] (upd H7 L (.lst [])) H9) ⟨[], hLL, .nil, Nat.le_refl _, .refl⟩ ?_ ?_ ?_
        · rintro i H9 _ ⟨acc, _, _, _, x9⟩
          exact x9.seqT (yL.seqT s7)
        · rintro i v H0 H9 hi ⟨acc, h9, p9, la9, x9⟩ ⟨rfl, hx9⟩
          obtain ⟨q9, hq1, hq2⟩ := hp.getL hx9
          have v9 : HvH H9 hd tk l.hv := hL7.v.ex x9 (by simpa using Lhd)
          have kq : isS q9 = tk := kw.2 q9 (List.mem_of_getElem? hq1)
          obtain ⟨og, dg, pg⟩ := v9.get kq ((hq2.ex x07).ex x9) (hZ7.ex x9)
          have li : i < 2 := by
            have h1 : i < [u, z].length := hi
            simp at h1; omega
          refine ⟨rfl, tyes_if ⟨.ref hd, rfl, hd, rfl, v9.isD, v, rfl, .ref t0, rfl, og, dg, acc, h9, Nat.lt_of_lt_of_le (show acc.length < 3 by omega) (by decide), acc ++ [og.getD (.ref t0)], upd_same, ?_, ?_, ?_⟩⟩
          · rw [List.take_add_one, hq1, List.map_append]
            have xp : Ex [L] H9 (upd H9 L (.lst (acc ++ [og.getD (.ref t0)]))) := .put h9 nt_lst (by simp)
            exact (p9.app (.cons pg .nil)).imp fun _ _ q => q.ex xp
          · rw [List.length_append, List.length_singleton]; omega
          · exact x9.trans (.put h9 nt_lst (by simp))
        rintro H9 ⟨acc, h9, p9, la9, x9⟩
        have p9 : P2 (PrT H9) acc ([c, d].map (hg n0 l.hv)) := p9
        have x69 : Ex [] H62 H9 := Ex.own (x7.f _ nL5) x07 x9
        have hs := x69.seqT hs
        have hL := hL.nil x69
        have hZ := hZ.ex x69
        have y := y.trans x69.nil
        have hb := hb.ex x69
        clear x7 yL x07 hL7 hZ7 x9 nL nL5 hLL hp
        cases p9 with
        | cons r0 r1 =>
        cases r1 with
        | cons r1 r2 =>
        cases r2
        obtain ⟨tg, rfl, htg⟩ := r0
        obtain ⟨th, rfl, hth⟩ := r1
        refine ⟨.ref L, rfl, L, _, 0, _, rfl, rfl, .of h9, at0, tg, _, 0, _, rfl, rfl, .of htg, at0, ?_⟩
        have fin2 : ∀ {Hy : Hp} {l1 : Ld} {nv : Nat} {bb : Bool} {y6 y7 : Option V}, Ex [kn, hd, dl] H9 Hy → LdH K kn hd dl tk l1 Hy → l1.hv.length ≤ 5000 → (⟨l1.ks, stB l1.hv b' (nv, bb), l1.ds⟩ : Ld) = stepL n0 l (.mix b' c d) → ∀ t4, Hy t4 = none → ∃ H14, DPut (upd Hy t4 (.tup [.int (nv : Nat), .bl bb])) hd bv (.ref t4) H14 ∧ ∃ (z5 z6 z7 : Option V) (l : Ld), [some (V.ref kn), some (.ref r), some (.ref t0), some (.ref hd), some (.ref dl), some (.ref a), y6, y7, none, none] = [some (.ref kn), some (.ref r), some (.ref t0), some (.ref hd), some (.ref dl), z5, z6, z7, none, none] ∧ l = runL n0 l0 (ws.take (i + 1)) ∧ LdH K kn hd dl tk l H14 ∧ PrT H14 (.ref t0) (n0, false) ∧ Ex [kn, hd, dl] H4 H14 := fun xh hl le e t4 nt4 => by
          obtain ⟨y4, g4⟩ := nw46 (o := .tup [.int (_ : Nat), .bl _]) nt4
          obtain ⟨H14, d14, x14, hL14⟩ := putS (p := (_, _)) (hl.nil y4) le g4 ((hb.ex xh).ex y4)
          exact ⟨H14, d14, finA (y.trans xh) (y4.nil.trans x14) e hL14⟩
        refine ⟨.ref a, rfl, a, _, 0, _, rfl, rfl, hs, at0, rfl, _, rfl, sNY (by decide +kernel) ?_⟩
        refine ⟨.ref kn, rfl, .ref a, rfl, 1, rfl, a, _, _, rfl, hs, cutTo 1, fun p2 H10 x10 s10 => ?_⟩
        have h10 := x10.lst h9
        refine ⟨.ref L, rfl, L, rfl, ⟨_, .of h10⟩, fun M nM => ?_⟩
        obtain ⟨yM, hM⟩ := nw46 (o := .lst []) nM
        have LM : L ≠ M := ne_of_none h10 nM
        refine lc_it (walk_list (K := K) (a := L) (xs := [.ref tg, .ref th])) (fun i H11 => H11 M = some (.lst (([c, d].take i).map fun c => V.int ((hg n0 l.hv c).1 : Nat))) ∧ Ex [M] (upd H10 M (.lst [])) H11) ⟨hM, .refl⟩ ?_ ?_ ?_
        · rintro i H11 _ ⟨_, x11⟩
          exact .of (x11.lst (yM.lst h10) (by simpa using LM))
        · rintro i v H0 H11 hi ⟨hM11, x11⟩ ⟨rfl, hx⟩
          have x9b := (x10.trans yM)
          match i, hi, hx, hM11 with
          | 0, _, hx, hM11 =>
            cases hx
            refine ⟨rfl, tyes_if ⟨.ref tg, rfl, tg, _, 0, _, rfl, rfl, .of (x11.tup (x9b.tup htg)), at0, _, hM11, Nat.lt_of_le_of_lt (show _ ≤ 2 by simp) (by decide), upd_same, x11.trans (.put hM11 nt_lst (by simp))⟩⟩
          | 1, _, hx, hM11 =>
            cases hx
            refine ⟨rfl, tyes_if ⟨.ref th, rfl, th, _, 0, _, rfl, rfl, .of (x11.tup (x9b.tup hth)), at0, _, hM11, Nat.lt_of_le_of_lt (show _ ≤ 2 by simp) (by decide), upd_same, x11.trans (.put hM11 nt_lst (by simp))⟩⟩
          | j + 2, hi, _, _ => exact absurd (show j + 2 < 2 from hi) (by omega)
        rintro H11 ⟨hM11, x11⟩
        have x911 : Ex [] H9 H11 := x10.trans (Ex.own nM yM x11)
        have s11 := x11.seqT (yM.seqT s10)
        refine ⟨M, _, rfl, .inl ⟨.of hM11, fun p3 n3 => ?_⟩⟩
        obtain ⟨y3, g3⟩ := nw46 (o := .tup (([c, d].take 2).map fun c => V.int ((hg n0 l.hv c).1 : Nat))) n3
        refine ⟨p2, p3, _, _, rfl, rfl, y3.seqT s11, .of g3, (by simp; decide), (fun e => by cases e), (fun _ e => by cases e), fun _ _ p4 n4 => ?_⟩
        obtain ⟨y4, g4⟩ := nw46 (o := .tup (([.inr (Str.ofString "mix"), .inl ((hg n0 l.hv c).1 : Nat), .inl ((hg n0 l.hv d).1 : Nat)]).map kV)) n4
        have x94 := x911.trans (y3.trans y4)
        have hL12 := hL.nil x94
        refine ⟨kn, p4, [.inr (Str.ofString "mix"), .inl ((hg n0 l.hv c).1 : Nat), .inl ((hg n0 l.hv d).1 : Nat)], l.ks, rfl, hL12.k, g4, by omega, fun H12 x12 k12 => ?_⟩
        have hL13 := hL12.form x12 k12 kd dk
        have x9b : Ex [kn, hd, dl] H9 H12 := x94.nil.trans (m1 x12)
        have hs13 := x12.seqT (x94.seqT hs)
        have h13 : H12 L = some (.lst [.ref tg, .ref th]) := x12.lst (x94.lst h9) (by simpa using fun e : L = kn => Lkn e.symm)
        have htg13 := x12.tup (x94.tup htg)
        have hth13 := x12.tup (x94.tup hth)
        refine ⟨_, rfl, .ref a, rfl, a, _, 0, _, rfl, rfl, hs13, at0, rfl, _, rfl, sNY (by decide +kernel) ?_⟩
        refine ⟨.ref L, rfl, L, _, 0, _, rfl, rfl, .of h13, at0, tg, _, 1, _, rfl, rfl, .of htg13, at1, _, rfl, ?_⟩
        cases e2 : (hg n0 l.hv c).2 with
        | true =>
          refine iteT ?_
          refine ⟨(by show 2 ≤ sizeLine; decide), fun t4 nt4 => ?_⟩
          obtain ⟨H14, d14, z14⟩ := fin2 (nv := (lform l.ks ([.inr (Str.ofString "mix"), .inl ((hg n0 l.hv c).1 : Nat), .inl ((hg n0 l.hv d).1 : Nat)])).2) (bb := true) x9b hL13 (show l.hv.length ≤ 5000 by omega) (by show _ = (⟨_, stB l.hv b' (_, (hg n0 l.hv c).2 || (hg n0 l.hv d).2), _⟩ : Ld); rw [e2]; rfl) t4 nt4
          have y4 : Ex [] H12 (upd H12 t4 (.tup [.int (((lform l.ks ([.inr (Str.ofString "mix"), .inl ((hg n0 l.hv c).1 : Nat), .inl ((hg n0 l.hv d).1 : Nat)])).2 : Nat) : Int), .bl true])) := .new nt4
          exact ⟨.ref hd, rfl, .ref a, rfl, a, _, 1, _, rfl, rfl, y4.seqT hs13, at1, hd, H14, rfl, d14, z14⟩
        | false =>
          refine iteF ?_
          refine ⟨.ref L, rfl, 1, rfl, L, _, _, _, rfl, rfl, .of h13, rfl, th, _, 1, _, rfl, rfl, .of hth13, at1, ?_⟩
          refine ⟨(by show 2 ≤ sizeLine; decide), fun t4 nt4 => ?_⟩
          obtain ⟨H14, d14, z14⟩ := fin2 (nv := (lform l.ks ([.inr (Str.ofString "mix"), .inl ((hg n0 l.hv c).1 : Nat), .inl ((hg n0 l.hv d).1 : Nat)])).2) (bb := (hg n0 l.hv d).2) x9b hL13 (show l.hv.length ≤ 5000 by omega) (by show _ = (⟨_, stB l.hv b' (_, (hg n0 l.hv c).2 || (hg n0 l.hv d).2), _⟩ : Ld); rw [e2]; rfl) t4 nt4
          have y4 : Ex [] H12 (upd H12 t4 (.tup [.int (((lform l.ks ([.inr (Str.ofString "mix"), .inl ((hg n0 l.hv c).1 : Nat), .inl ((hg n0 l.hv d).1 : Nat)])).2 : Nat) : Int), .bl (hg n0 l.hv d).2])) := .new nt4
          exact ⟨.ref hd, rfl, .ref a, rfl, a, _, 1, _, rfl, rfl, y4.seqT hs13, at1, hd, H14, rfl, d14, z14⟩
      | opn b' c =>
        obtain ⟨bv, u, rfl, hb, _⟩ := id hwx
        refine ⟨.ref a, rfl, a, _, 0, _, rfl, rfl, hs, at0, (by show 2 ≤ sizeLine; decide), fun U1 nU1 => ?_⟩
        obtain ⟨w1, g1⟩ := nw46 (o := .tup [V.str (Str.ofString "take"), V.str (Str.ofString "ask")]) nU1
        refine ⟨U1, _, rfl, .inr (.of g1), rfl, rfl, _, rfl, inN (by decide +kernel) ?_⟩
        have hs := w1.seqT hs
        have hL := hL.nil w1
        have hZ := hZ.ex w1
        have y := y.trans w1.nil
        have hwx := hwx.ex w1
        generalize upd _ U1 (HO.tup [V.str (Str.ofString "take"), V.str (Str.ofString "ask")]) = H61 at w1 g1 hs hL hZ y hwx ⊢
        refine ⟨.ref a, rfl, a, _, 0, _, rfl, rfl, hs, at0, rfl, _, rfl, sN (by decide +kernel) ?_⟩
        refine ⟨.ref a, rfl, a, _, 0, _, rfl, rfl, hs, at0, (by show 2 ≤ sizeLine; decide), fun U2 nU2 => ?_⟩
        obtain ⟨w2, g2⟩ := nw46 (o := .tup [V.str (Str.ofString "number"), V.str (Str.ofString "wipe")]) nU2
        refine ⟨U2, _, rfl, .inr (.of g2), rfl, rfl, _, rfl, inN (by decide +kernel) ?_⟩
        have hs := w2.seqT hs
        have hL := hL.nil w2
        have hZ := hZ.ex w2
        have y := y.trans w2.nil
        have hwx := hwx.ex w2
        generalize upd _ U2 (HO.tup [V.str (Str.ofString "number"), V.str (Str.ofString "wipe")]) = H62 at w2 g2 hs hL hZ y hwx ⊢
        have hbb : BxT H62 bv b' ∧ P2 (BxT H62) [u] [c] := by
          obtain ⟨v1, u1, e2, h0, h1⟩ := hwx
          cases e2
          exact ⟨h0, .cons h1 .nil⟩
        obtain ⟨hb, hp⟩ := hbb
        refine ⟨.ref a, rfl, 2, rfl, a, _, _, rfl, hs, cutN 2, fun p1 H7 x7 s7 => ⟨p1, rfl, ⟨_, s7⟩, fun L nL => ?_⟩⟩
        obtain ⟨yL, hLL⟩ := nw46 (o := .lst []) nL
        have x07 := x7.trans yL
        have hL7 := hL.nil x07
        have hZ7 := hZ.ex x07
        have Lhd : hd ≠ L := fun e => by
          obtain ⟨dv, h1, _⟩ := (hL.nil x7).v
          rw [← e, h1.2] at nL; cases nL
        have Lkn : kn ≠ L := fun e => by rw [← e, (hL.nil x7).k] at nL; cases nL
        have Ldl : dl ≠ L := fun e => by
          obtain ⟨us, h1, _⟩ := (hL.nil x7).d
          rw [← e, h1] at nL; cases nL
        have nL5 := nL
        refine lc_it (walk_tup (K := K) (a := p1) (xs := [u])) (fun i H9 => ∃ acc, H9 L = some (.lst acc) ∧ P2 (PrT H9) acc (([c].take i).map (hg n0 l.hv)) ∧ acc.length ≤ i ∧ Ex [L] (upd H7 L (.lst [])) H9) ⟨[], hLL, .nil, Nat.le_refl _, .refl⟩ ?_ ?_ ?_
        · rintro i H9 _ ⟨acc, _, _, _, x9⟩
          exact x9.seqT (yL.seqT s7)
        · rintro i v H0 H9 hi ⟨acc, h9, p9, la9, x9⟩ ⟨rfl, hx9⟩
          obtain ⟨q9, hq1, hq2⟩ := hp.getL hx9
          have v9 : HvH H9 hd tk l.hv := hL7.v.ex x9 (by simpa using Lhd)
          have kq : isS q9 = tk := kw.2 q9 (List.mem_of_getElem? hq1)
          obtain ⟨og, dg, pg⟩ := v9.get kq ((hq2.ex x07).ex x9) (hZ7.ex x9)
          have li : i < 2 := by
            have h1 : i < [u].length := hi
            simp at h1; omega
          refine ⟨rfl, tyes_if ⟨.ref hd, rfl, hd, rfl, v9.isD, v, rfl, .ref t0, rfl, og, dg, acc, h9, Nat.lt_of_lt_of_le (show acc.length < 3 by omega) (by decide), acc ++ [og.getD (.ref t0)], upd_same, ?_, ?_, ?_⟩⟩
          · rw [List.take_add_one, hq1, List.map_append]
            have xp : Ex [L] H9 (upd H9 L (.lst (acc ++ [og.getD (.ref t0)]))) := .put h9 nt_lst (by simp)
            exact (p9.app (.cons pg .nil)).imp fun _ _ q => q.ex xp
          · rw [List.length_append, List.length_singleton]; omega
          · exact x9.trans (.put h9 nt_lst (by simp))
        rintro H9 ⟨acc, h9, p9, la9, x9⟩
        have p9 : P2 (PrT H9) acc ([c].map (hg n0 l.hv)) := p9
        have x69 : Ex [] H62 H9 := Ex.own (x7.f _ nL5) x07 x9
        have hs := x69.seqT hs
        have hL := hL.nil x69
        have hZ := hZ.ex x69
        have y := y.trans x69.nil
        have hb := hb.ex x69
        clear x7 yL x07 hL7 hZ7 x9 nL nL5 hLL hp
        cases p9 with
        | cons r0 r1 =>
        cases r1
        obtain ⟨tg, rfl, htg⟩ := r0
        refine ⟨.ref L, rfl, L, _, 0, _, rfl, rfl, .of h9, at0, tg, _, 0, _, rfl, rfl, .of htg, at0, ?_⟩
        have fin2 : ∀ {Hy : Hp} {l1 : Ld} {nv : Nat} {bb : Bool} {y6 y7 : Option V}, Ex [kn, hd, dl] H9 Hy → LdH K kn hd dl tk l1 Hy → l1.hv.length ≤ 5000 → (⟨l1.ks, stB l1.hv b' (nv, bb), l1.ds⟩ : Ld) = stepL n0 l (.opn b' c) → ∀ t4, Hy t4 = none → ∃ H14, DPut (upd Hy t4 (.tup [.int (nv : Nat), .bl bb])) hd bv (.ref t4) H14 ∧ ∃ (z5 z6 z7 : Option V) (l : Ld), [some (V.ref kn), some (.ref r), some (.ref t0), some (.ref hd), some (.ref dl), some (.ref a), y6, y7, none, none] = [some (.ref kn), some (.ref r), some (.ref t0), some (.ref hd), some (.ref dl), z5, z6, z7, none, none] ∧ l = runL n0 l0 (ws.take (i + 1)) ∧ LdH K kn hd dl tk l H14 ∧ PrT H14 (.ref t0) (n0, false) ∧ Ex [kn, hd, dl] H4 H14 := fun xh hl le e t4 nt4 => by
          obtain ⟨y4, g4⟩ := nw46 (o := .tup [.int (_ : Nat), .bl _]) nt4
          obtain ⟨H14, d14, x14, hL14⟩ := putS (p := (_, _)) (hl.nil y4) le g4 ((hb.ex xh).ex y4)
          exact ⟨H14, d14, finA (y.trans xh) (y4.nil.trans x14) e hL14⟩
        refine ⟨.ref a, rfl, a, _, 0, _, rfl, rfl, hs, at0, rfl, _, rfl, sNY (by decide +kernel) ?_⟩
        refine ⟨.ref kn, rfl, .ref a, rfl, 1, rfl, a, _, _, rfl, hs, cutTo 1, fun p2 H10 x10 s10 => ?_⟩
        have h10 := x10.lst h9
        refine ⟨.ref L, rfl, L, rfl, ⟨_, .of h10⟩, fun M nM => ?_⟩
        obtain ⟨yM, hM⟩ := nw46 (o := .lst []) nM
        have LM : L ≠ M := ne_of_none h10 nM
        refine lc_it (walk_list (K := K) (a := L) (xs := [.ref tg])) (fun i H11 => H11 M = some (.lst (([c].take i).map fun c => V.int ((hg n0 l.hv c).1 : Nat))) ∧ Ex [M] (upd H10 M (.lst [])) H11) ⟨hM, .refl⟩ ?_ ?_ ?_
        · rintro i H11 _ ⟨_, x11⟩
          exact .of (x11.lst (yM.lst h10) (by simpa using LM))
        · rintro i v H0 H11 hi ⟨hM11, x11⟩ ⟨rfl, hx⟩
          have x9b := (x10.trans yM)
          match i, hi, hx, hM11 with
          | 0, _, hx, hM11 =>
            cases hx
            refine ⟨rfl, tyes_if ⟨.ref tg, rfl, tg, _, 0, _, rfl, rfl, .of (x11.tup (x9b.tup htg)), at0, _, hM11, Nat.lt_of_le_of_lt (show _ ≤ 2 by simp) (by decide), upd_same, x11.trans (.put hM11 nt_lst (by simp))⟩⟩
          | j + 1, hi, _, _ => exact absurd (show j + 1 < 1 from hi) (by omega)
        rintro H11 ⟨hM11, x11⟩
        have x911 : Ex [] H9 H11 := x10.trans (Ex.own nM yM x11)
        have s11 := x11.seqT (yM.seqT s10)
        refine ⟨M, _, rfl, .inl ⟨.of hM11, fun p3 n3 => ?_⟩⟩
        obtain ⟨y3, g3⟩ := nw46 (o := .tup (([c].take 1).map fun c => V.int ((hg n0 l.hv c).1 : Nat))) n3
        refine ⟨p2, p3, _, _, rfl, rfl, y3.seqT s11, .of g3, (by simp; decide), (fun e => by cases e), (fun _ e => by cases e), fun _ _ p4 n4 => ?_⟩
        obtain ⟨y4, g4⟩ := nw46 (o := .tup ((kyN "open" ((hg n0 l.hv c).1 : Nat)).map kV)) n4
        have x94 := x911.trans (y3.trans y4)
        have hL12 := hL.nil x94
        refine ⟨kn, p4, kyN "open" ((hg n0 l.hv c).1 : Nat), l.ks, rfl, hL12.k, g4, by omega, fun H12 x12 k12 => ?_⟩
        have hL13 := hL12.form x12 k12 kd dk
        have x9b : Ex [kn, hd, dl] H9 H12 := x94.nil.trans (m1 x12)
        have hs13 := x12.seqT (x94.seqT hs)
        have h13 : H12 L = some (.lst [.ref tg]) := x12.lst (x94.lst h9) (by simpa using fun e : L = kn => Lkn e.symm)
        have htg13 := x12.tup (x94.tup htg)
        refine ⟨_, rfl, .ref a, rfl, a, _, 0, _, rfl, rfl, hs13, at0, rfl, _, rfl, sNN ?_⟩
        refine ⟨(by show 2 ≤ sizeLine; decide), fun t4 nt4 => ?_⟩
        obtain ⟨H14, d14, z14⟩ := fin2 (nv := (lform l.ks (kyN "open" ((hg n0 l.hv c).1 : Nat))).2) (bb := false) x9b hL13 (show l.hv.length ≤ 5000 by omega) (rfl) t4 nt4
        have y4 : Ex [] H12 (upd H12 t4 (.tup [.int (((lform l.ks (kyN "open" ((hg n0 l.hv c).1 : Nat))).2 : Nat) : Int), .bl false])) := .new nt4
        exact ⟨.ref hd, rfl, .ref a, rfl, a, _, 1, _, rfl, rfl, y4.seqT hs13, at1, hd, H14, rfl, d14, z14⟩
    · rintro σ H5 ⟨y5, y6, y7, l, rfl, el, hL, hZ, x5⟩
      rw [lws, List.take_length] at el
      have nd : (l.hv.map (·.1)).Nodup := by rw [el]; exact runL_nd nd0
      have lok : LdOk 2001 0 ws.length l := by rw [el]; exact runL_ok ok0 _
      rw [← el] at q
      obtain ⟨us, hus, tus⟩ := hL.d
      obtain ⟨dv, ⟨hb1, hb2⟩, hrv⟩ := hL.v
      have ndv : (dv.map (·.1)).Nodup := by
        have e : dv.map (·.1) = l.hv.map (·.1) := by
          have : ∀ {dv : List (Bx × V)} {hv : List (Bx × (Nat × Bool))}, P2 (RvP H5) dv hv → dv.map (·.1) = hv.map (·.1) := by
            intro dv hv h
            induction h with
            | nil => rfl
            | cons r t ih => rw [List.map_cons, List.map_cons, ih, r.1]
          exact this hrv
        rw [e]; exact nd
      have ldv := hrv.len
      refine ⟨.ref dl, rfl, hd, bvO tk dv, hb2, by cases tk <;> trivial, fun od => ?_⟩
      have xo : Ex [hd] H5 (upd H5 hd (.frz od (bvO tk dv))) := on_ex hb2 bvO_nt.1 bvO_nt.2
      have ho : (upd H5 hd (.frz od (bvO tk dv))) hd = some (.frz od (bvO tk dv)) := upd_same
      have wrap : ∀ {H6 : Hp} {D : Addr} {acc : List V}, (upd H5 hd (.frz od (bvO tk dv))) D = none → H6 D = some (.lst acc) → P2 (BxT H6) acc (leftL l.hv) → Ex [D] (upd (upd H5 hd (.frz od (bvO tk dv))) D (.lst [])) H6 → H6 hd = some (.frz od (bvO tk dv)) ∧ (∀ t, (upd H6 hd (bvO tk dv)) t = none → Q (.ref t) (upd (upd H6 hd (bvO tk dv)) t (.tup [.ref dl, .ref D]))) := fun {H6 D acc} nD hD p2 xD => by
        have hdD : hd ≠ D := fun z => by rw [← z, ho] at nD; cases nD
        have x6 : Ex [] (upd H5 hd (.frz od (bvO tk dv))) H6 := Ex.own nD (.new nD) xD
        have h6 : H6 hd = some (.frz od (bvO tk dv)) := x6.a hd _ (by simp) ho (fun _ z => by cases z)
        refine ⟨h6, fun t nt => ?_⟩
        have x56 : Ex [] H5 (upd H6 hd (bvO tk dv)) := Ex.lock hb2 bvO_nt.1 bvO_nt.2 x6 h6
        obtain ⟨yt, gt⟩ := nw46 (o := .tup [.ref dl, .ref D]) nt
        have nD5 : H5 D = none := upd_free nD
        have hD2 : (upd H6 hd (bvO tk dv)) D = some (.lst acc) := by rw [upd_ne hdD.symm]; exact hD
        refine q _ t dl D us acc (onto (x5.trans (x56.trans yt).nil)) ((hL.k |> fun h => (x56.trans yt).a kn _ (by simp) h (fun _ z => by cases z))) gt ndl0 (x04.f _ (x5.f _ nD5)) (fun z => by rw [← z, hus] at nD5; cases nD5) ((x56.trans yt).lst hus) (tus.ex (x56.trans yt)) (yt.lst hD2) (p2.imp fun v b h => ?_)
        refine BxT.ex (xs := []) ?_ yt
        cases b with
        | s z => exact h
        | q z n => obtain ⟨u, rfl, hu⟩ := h; exact ⟨u, rfl, un_tup h6 hu⟩
      cases tk with
      | true =>
        refine ⟨.ref hd, rfl, hd, od, rfl, .inl ⟨dv.map (fun x : Bx × V => (kS x.1, x.2)), ho, fun D nD => ?_⟩⟩
        have hdD : hd ≠ D := fun z => by rw [← z, ho] at nD; cases nD
        obtain ⟨yD, hD⟩ := nw46 (o := .lst []) nD
        refine lc_it (walk_keys (kvs := dv.map fun x : Bx × V => (kS x.1, x.2))) (fun i H6 => ∃ acc, H6 D = some (.lst acc) ∧ P2 (BxT H6) acc (leftL (l.hv.take i)) ∧ acc.length ≤ i ∧ Ex [D] (upd (upd H5 hd (.frz od (bvO true dv))) D (.lst [])) H6) ⟨[], hD, .nil, Nat.le_refl _, .refl⟩ ?_ ?_ ?_
        · rintro i H6 _ ⟨acc, _, _, _, x6⟩
          exact x6.a hd _ (by simpa using hdD) (yD.a hd _ (by simp) ho (fun _ z => by cases z)) (fun _ z => by cases z)
        · rintro i v H0 H6 hi ⟨acc, h6, p6, la, x6⟩ ⟨rfl, ky, vv, hx, rfl⟩
          rw [List.getElem?_map] at hx
          cases hdv : dv[i]? with
          | none => rw [hdv] at hx; cases hx
          | some y =>
            rw [hdv] at hx
            obtain ⟨yb, yv⟩ := y
            cases hx
            obtain ⟨p, hp1, hp2⟩ := hrv.getL hdv
            obtain ⟨eb, t9, etv, ht9⟩ := hp2
            have eb : yb = p.1 := eb
            have etv : yv = .ref t9 := etv
            subst etv
            have kb : isS yb = true := hb1 _ (List.mem_of_getElem? hdv)
            have fr6 : H6 hd = some (.frz od (bvO true dv)) := x6.a hd _ (by simpa using hdD) (yD.a hd _ (by simp) ho (fun _ z => by cases z)) (fun _ z => by cases z)
            have lk : lkB dv yb = some (.ref t9) := lkB_nd ndv (List.mem_of_getElem? hdv)
            have bx : BxT H6 (kV (kS yb)) yb := by
              cases yb with
              | s z => rfl
              | q _ _ => cases kb
            have dg : DGet H6 hd (kV (kS yb)) (some (.ref t9)) := by
              have e := valV_bv kS (q := yb) (dv := dv) fun x hx e => kS_inj (hb1 x hx) kb e
              rw [← lk, ← e]
              exact .inl ⟨_, _, .inr ⟨od, fr6⟩, rfl, rfl⟩
            refine ⟨rfl, .ref hd, rfl, _, rfl, hd, .ref t9, rfl, dg, t9, _, 1, _, rfl, rfl, .of (x6.tup (yD.tup (xo.tup ht9))), at1, ?_⟩
            have hvi : l.hv[i]? = some p := hp1
            have li : i < dv.length := (List.getElem?_eq_some_iff.mp hdv).1
            have el2 : leftL (l.hv.take (i + 1)) = leftL (l.hv.take i) ++ (if p.2.2 = true then [p.1] else []) := by
              unfold leftL
              rw [List.take_add_one, hvi, List.filter_append, List.map_append]
              congr 1
              cases hp : p.2.2 <;> simp [hp]
            refine ⟨p.2.2, rfl, ?_⟩
            cases hp : p.2.2 with
            | false =>
              rw [hp, if_neg Bool.false_ne_true, List.append_nil] at el2
              refine iteF ⟨acc, h6, ?_, by omega, x6⟩
              rw [el2]; exact p6
            | true =>
              rw [hp, if_pos rfl] at el2
              have xp : Ex [D] H6 (upd H6 D (.lst (acc ++ [kV (kS yb)]))) := .put h6 nt_lst (by simp)
              refine iteT ⟨_, rfl, acc, h6, Nat.lt_of_le_of_lt (show acc.length ≤ 2000 by have := lok.h; omega) (by decide), _, upd_same, ?_, ?_, x6.trans xp⟩
              · rw [el2, ← eb]
                exact (p6.app (.cons bx .nil)).imp fun _ _ h => h.ex xp
              · rw [List.length_append, List.length_singleton]; omega
        rintro H6 ⟨acc, h6, p6, la, x6⟩
        rw [List.length_map, ldv, List.take_length] at p6
        obtain ⟨w1, w2⟩ := wrap nD h6 p6 x6
        exact ⟨w1, (by show 2 ≤ sizeLine; decide), w2⟩
      | false =>
        refine ⟨.ref hd, rfl, hd, od, rfl, .inr ⟨dv.map (fun x : Bx × V => (kT x.1, x.2)), ho, fun D nD => ?_⟩⟩
        have hdD : hd ≠ D := fun z => by rw [← z, ho] at nD; cases nD
        obtain ⟨yD, hD⟩ := nw46 (o := .lst []) nD
        refine lc_it (walk_keysT (kvs := dv.map fun x : Bx × V => (kT x.1, x.2))) (fun i H6 => ∃ acc, H6 D = some (.lst acc) ∧ P2 (BxT H6) acc (leftL (l.hv.take i)) ∧ acc.length ≤ i ∧ Ex [D] (upd (upd H5 hd (.frz od (bvO false dv))) D (.lst [])) H6) ⟨[], hD, .nil, Nat.le_refl _, .refl⟩ ?_ ?_ ?_
        · rintro i H6 _ ⟨acc, _, _, _, x6⟩
          exact x6.a hd _ (by simpa using hdD) (yD.a hd _ (by simp) ho (fun _ z => by cases z)) (fun _ z => by cases z)
        · rintro i v H0 H6 hi ⟨acc, h6, p6, la, x6⟩ ⟨rfl, ky, vv, qa, hx, rfl, hqa⟩
          rw [List.getElem?_map] at hx
          cases hdv : dv[i]? with
          | none => rw [hdv] at hx; cases hx
          | some y =>
            rw [hdv] at hx
            obtain ⟨yb, yv⟩ := y
            cases hx
            obtain ⟨p, hp1, hp2⟩ := hrv.getL hdv
            obtain ⟨eb, t9, etv, ht9⟩ := hp2
            have eb : yb = p.1 := eb
            have etv : yv = .ref t9 := etv
            subst etv
            have kb : isS yb = false := hb1 _ (List.mem_of_getElem? hdv)
            have fr6 : H6 hd = some (.frz od (bvO false dv)) := x6.a hd _ (by simpa using hdD) (yD.a hd _ (by simp) ho (fun _ z => by cases z)) (fun _ z => by cases z)
            have lk : lkB dv yb = some (.ref t9) := lkB_nd ndv (List.mem_of_getElem? hdv)
            have bx : BxT H6 (.ref qa) yb := by
              cases yb with
              | q z n => exact ⟨qa, rfl, hqa⟩
              | s _ => cases kb
            have dg : DGet H6 hd (.ref qa) (some (.ref t9)) := by
              have e := valV_bv kT (q := yb) (dv := dv) fun x hx e => kT_inj (hb1 x hx) kb e
              rw [← lk, ← e]
              exact .inr ⟨_, _, qa, .inr ⟨od, fr6⟩, rfl, hqa, rfl⟩
            refine ⟨rfl, .ref hd, rfl, _, rfl, hd, .ref t9, rfl, dg, t9, _, 1, _, rfl, rfl, .of (x6.tup (yD.tup (xo.tup ht9))), at1, ?_⟩
            have hvi : l.hv[i]? = some p := hp1
            have li : i < dv.length := (List.getElem?_eq_some_iff.mp hdv).1
            have el2 : leftL (l.hv.take (i + 1)) = leftL (l.hv.take i) ++ (if p.2.2 = true then [p.1] else []) := by
              unfold leftL
              rw [List.take_add_one, hvi, List.filter_append, List.map_append]
              congr 1
              cases hp : p.2.2 <;> simp [hp]
            refine ⟨p.2.2, rfl, ?_⟩
            cases hp : p.2.2 with
            | false =>
              rw [hp, if_neg Bool.false_ne_true, List.append_nil] at el2
              refine iteF ⟨acc, h6, ?_, by omega, x6⟩
              rw [el2]; exact p6
            | true =>
              rw [hp, if_pos rfl] at el2
              have xp : Ex [D] H6 (upd H6 D (.lst (acc ++ [.ref qa]))) := .put h6 nt_lst (by simp)
              refine iteT ⟨_, rfl, acc, h6, Nat.lt_of_le_of_lt (show acc.length ≤ 2000 by have := lok.h; omega) (by decide), _, upd_same, ?_, ?_, x6.trans xp⟩
              · rw [el2, ← eb]
                exact (p6.app (.cons bx .nil)).imp fun _ _ h => h.ex xp
              · rw [List.length_append, List.length_singleton]; omega
        rintro H6 ⟨acc, h6, p6, la, x6⟩
        rw [List.length_map, ldv, List.take_length] at p6
        obtain ⟨w1, w2⟩ := wrap nD h6 p6 x6
        exact ⟨w1, (by show 2 ≤ sizeLine; decide), w2⟩
end
end K48

set_option maxHeartbeats 8000000
namespace K48
open PySem PySem.Spec PyProof.Rows L2 Kk RZ
abbrev s_pool : Stmt := topS 36
abbrev s_boxes : Stmt := topS 37
abbrev s_straight : Stmt := topS 39
abbrev n_pool : List Str := ["_law_state", "_law_many", "_law_letters", "_law_first", "_law_tails", "_law_k"]
abbrev n_boxes : List Str := ["_law_state", "_law_many", "_law_heads", "_law_fields", "_law_found", "_law_k"]
abbrev n_straight : List Str := ["_law_state", "_law_boxes_here", "_law_worths", "_law_many", "_law_row_here", "_law_k", "_law_way", "_law_x", "_law_y", "_law_z", "_law_j"]
theorem sc_pool : FnScope n_pool ["_law_state", "_law_many"] (defScope s_pool) := ⟨rfl, rfl, rfl, by decide +kernel, rfl, by decide +kernel, by decide +kernel⟩
theorem sc_boxes : FnScope n_boxes ["_law_state", "_law_many"] (defScope s_boxes) := ⟨rfl, rfl, rfl, by decide +kernel, rfl, by decide +kernel, by decide +kernel⟩
theorem sc_straight : FnScope n_straight ["_law_state", "_law_boxes_here", "_law_worths", "_law_many"] (defScope s_straight) := ⟨rfl, rfl, rfl, by decide +kernel, rfl, by decide +kernel, by decide +kernel⟩
def sg (c : Nat) : Str := ⟨#[c]⟩
theorem abc_at (v : Int) (h0 : 0 ≤ v) (h1 : v < 26) : ∃ c, atI abc.cps.toList v = some c ∧ c ∈ abc.cps.toList := by
  have hl : abc.cps.toList.length = 26 := by decide +kernel
  have h2 : v.toNat < abc.cps.toList.length := by omega
  refine ⟨abc.cps.toList[v.toNat], ?_, List.getElem_mem _⟩
  have := atI_nat (List.getElem?_eq_getElem h2)
  rwa [Int.toNat_of_nonneg h0] at this
def tailsL : List Str := ["", "a", "ing", "zzzzzz", "e", "way"].map Str.ofString
structure PoolOk (z : Str) : Prop where
  n : nameB z = true
  l : z.length ≤ 8
  s : PyData.strOk z = true
theorem pool_ok {c : Nat} {t : Str} (hc : c ∈ abc.cps.toList) (ht : t ∈ tailsL) : PoolOk (Str.ofString "q" ++ sg c ++ t) := by
  have h1 : ∀ c ∈ abc.cps.toList, ∀ t ∈ tailsL, nameB (Str.ofString "q" ++ sg c ++ t) = true ∧ (Str.ofString "q" ++ sg c ++ t).length ≤ 8 ∧ PyData.strOk (Str.ofString "q" ++ sg c ++ t) = true := by decide +kernel
  obtain ⟨a, b, d⟩ := h1 c hc t ht
  exact ⟨a, b, d⟩
section
variable {P : Program} {w : World} {K : PySem.W.Frag} {mg : Str → Option Value} {base : Heap}
def spPool : Sp := fun vs H Q _ => ∃ (d : Addr) (m : Nat), vs = [.ref d, .int m] ∧ St2 H d ∧ m ≤ 26 ∧ ∀ H' p (zs : List Str), H p = none → Ex [d] H H' → St2 H' d → H' p = some (.lst (zs.map V.str)) → zs.length = m → (∀ z ∈ zs, PoolOk z) → Q (.ref p) H'
theorem ok_pool {f f1 : Addr} {fd d1 : FuncData} {k : Nat} (F : Fun K "_law_pool" "_law_pool" s_pool f fd) (C__law_draw : Cl P w K mg base k "_law_draw" ["_law_state", "_law_many"] spDraw f1 d1) (m_range : mg "range" = none) : FnOk P w K mg base CX0 (k + 1) f fd ["_law_state", "_law_many"] spPool := by
  refine F.ok sc_pool (fun vs H Q E h => ?_) (fun cdv A outer s H vs Q E hr h => ?_)
  · obtain ⟨d, m, rfl, _⟩ := h; rfl
  · obtain ⟨d, m, rfl, hD, hm, q⟩ := h
    refine ⟨_, (pss_cons (ps_set (i := 2) sc_pool.nd rfl (.inr rfl) pe_str)
      (pss_cons (ps_set (i := 3) sc_pool.nd rfl (.inr rfl) (pe_call C__law_draw.g hr (by rfl) C__law_draw.m C__law_draw.k C__law_draw.b .nil pass0 (pa_cons (pv 0) (pa_cons pe_int pa_nil))))
      (pss_cons (ps_set (i := 4) sc_pool.nd rfl (.inr rfl) (pe_lst (pa_cons pe_str (pa_cons pe_str (pa_cons pe_str (pa_cons pe_str (pa_cons pe_str (pa_cons pe_str pa_nil))))))))
      (pss_one (ps_ret (pe_lc (own := [("_law_k", 5)]) (g := gName 5) (tt := tYes) rfl sc_pool.nd (pi_range1 (by rfl) m_range (pa_cons (pv 1) pa_nil)) (blkOk_by (N := n_pool) (sc := defScope s_pool) (by decide +kernel)) (fun _ _ _ _ _ => pg_name (i := 5) sc_pool.nd rfl (Or.inl rfl)) (fun _ _ _ _ _ => pts_nil) (fun _ _ _ _ _ => (pe_op op_add_str (pe_op op_add_str pe_str (pe_ix ix_str (pv 2) (pe_op op_mod (pe_op op_add (pv 3) (pv 5)) pe_int) (fun _ _ => rfl))) (pe_ix (ix_listK (K := K) rfl) (pv 4) (pe_call C__law_draw.g hr (by rfl) C__law_draw.m C__law_draw.k C__law_draw.b .nil pass0 (pa_cons (pv 0) (pa_cons pe_int pa_nil))) (fun _ _ => rfl)))))))))), ?_⟩
    refine ⟨.ref d, rfl, d, 26, rfl, hD, by decide, by decide, fun H1 v v0 v1 x1 D1 => ?_⟩
    refine ⟨(by show 6 ≤ sizeLine; decide), fun T nT => ?_⟩
    obtain ⟨yT, hT⟩ := nw46 (o := .lst (tailsL.map V.str)) nT
    have dT : d ≠ T := (D1.ne nT).symm
    have D2 := D1.ex yT (by simp)
    have e0 : upd H1 T (.lst (tailsL.map V.str)) = upd H1 T (.lst [.str (Str.ofString ""), .str (Str.ofString "a"), .str (Str.ofString "ing"), .str (Str.ofString "zzzzzz"), .str (Str.ofString "e"), .str (Str.ofString "way")]) := rfl
    rw [← e0]
    generalize upd H1 T (.lst (tailsL.map V.str)) = H2 at yT hT D2 ⊢
    refine ⟨.int m, rfl, m, rfl, by omega, by omega, fun B nB => ?_⟩
    obtain ⟨yB, hB⟩ := nw46 (o := .lst []) nB
    have dB : d ≠ B := (D2.ne nB).symm
    have TB : T ≠ B := ne_of_none hT nB
    refine lc_range (lo := 0) (n := (m : Int).toNat) (fun i H3 => ∃ zs : List Str, H3 B = some (.lst (zs.map V.str)) ∧ zs.length = i ∧ (∀ z ∈ zs, PoolOk z) ∧ Ex [d, B] (upd H2 B (.lst [])) H3 ∧ St2 H3 d) ?_ ?_ ?_
    · exact ⟨[], hB, rfl, by simp, .refl, D2.ex yB (by simp)⟩
    · rintro i H3 hi ⟨zs, h3, lz, pz, x3, D3⟩
      refine ⟨rfl, tyes_if ?_⟩
      obtain ⟨c, hc1, hc2⟩ := abc_at ((v + (0 + (i : Int))) % 26) (Int.emod_nonneg _ (by decide)) (Int.emod_lt_of_pos _ (by decide))
      refine ⟨.str abc, rfl, .int v, rfl, .int (0 + (i : Int)), rfl, v, 0 + (i : Int), rfl, rfl, v + (0 + (i : Int)), 26, rfl, rfl, (by show (0 : Int) < 26; decide), abc, _, c, rfl, rfl, by decide, hc1, Str.ofString "q", sg c, rfl, rfl, Nat.le_trans (show 2 ≤ 3 by decide) (by decide), ?_⟩
      refine ⟨.ref T, rfl, .ref d, rfl, d, 6, rfl, D3, by decide, by decide, fun H4 u u0 u1 x4 D4 => ?_⟩
      have hT4 : H4 T = some (.lst (tailsL.map V.str)) := x4.lst (x3.lst (yB.lst hT) (by simp [TB, dT.symm])) (by simpa using dT.symm)
      have hB4 := x4.lst h3 (by simpa using dB.symm)
      obtain ⟨t, et, mt⟩ : ∃ t, atI (tailsL.map V.str) u = some (.str t) ∧ t ∈ tailsL := by
        obtain ⟨x, h1, h2⟩ := atZ (xs := tailsL.map V.str) u0 u1
        obtain ⟨t, ht, rfl⟩ := List.mem_map.mp (List.mem_of_getElem? h2)
        exact ⟨t, h1, ht⟩
      have ok := pool_ok hc2 mt
      refine ⟨T, _, u, .str t, rfl, rfl, .of hT4, et, Str.ofString "q" ++ sg c, t, rfl, rfl, ?_, zs.map V.str, hB4, ?_, zs ++ [Str.ofString "q" ++ sg c ++ t], ?_, ?_, ?_, ?_, ?_⟩
      · have h1 : (Str.ofString "q" ++ sg c ++ t).length = (Str.ofString "q" ++ sg c).length + t.length := Str.length_append _ _
        have h2 := ok.l
        rw [h1] at h2
        exact Nat.le_trans h2 (by decide)
      · rw [List.length_map, lz]; exact Nat.lt_of_lt_of_le (show i < 27 by omega) (by decide)
      · rw [upd_same, List.map_append]; rfl
      · rw [List.length_append, lz]; rfl
      · intro z hz
        rcases List.mem_append.mp hz with m | m
        · exact pz z m
        · rw [List.mem_singleton.mp m]; exact ok
      · exact (x3.trans (x4.mono (by simp))).trans (.put hB4 nt_lst (by simp))
      · exact D4.ex (.put hB4 nt_lst (by simp) (xs := [B])) (by simpa using dB)
    · rintro H3 ⟨zs, h3, lz, pz, x3, D3⟩
      have nB0 : H B = none := x1.f _ (yT.f _ nB)
      refine q H3 B zs nB0 (ex_onto (fun z hz => ?_) (x1.trans (yT.trans yB).nil) x3) D3 h3 (by rw [lz]; rfl) pz
      simp only [List.mem_cons, List.not_mem_nil, or_false] at hz
      rcases hz with rfl | rfl
      · exact .inl (by simp)
      · exact .inr nB0
def spBoxes : Sp := fun vs H Q _ => ∃ (d : Addr) (m : Nat), vs = [.ref d, .int m] ∧ St2 H d ∧ 2 ≤ m ∧ m ≤ 26 ∧ ∀ H' p (zs : List Str), H p = none → Ex [d] H H' → St2 H' d → H' p = some (.lst (zs.map V.str)) → zs.length = m → (∀ z ∈ zs, z.length ≤ 20) → Q (.ref p) H'
theorem ok_boxes {f f1 f2 : Addr} {fd d1 d2 : FuncData} {k : Nat} (F : Fun K "_law_boxes" "_law_boxes" s_boxes f fd) (C__law_draw : Cl P w K mg base k "_law_draw" ["_law_state", "_law_many"] spDraw f1 d1) (C__law_pool : Cl P w K mg base k "_law_pool" ["_law_state", "_law_many"] spPool f2 d2) (m_range : mg "range" = none) : FnOk P w K mg base CX0 (k + 1) f fd ["_law_state", "_law_many"] spBoxes := by
  refine F.ok sc_boxes (fun vs H Q E h => ?_) (fun cdv A outer s H vs Q E hr h => ?_)
  · obtain ⟨d, m, rfl, _⟩ := h; rfl
  · obtain ⟨d, m, rfl, hD, hm2, hm, q⟩ := h
    refine ⟨_, (pss_cons (ps_set (i := 2) sc_boxes.nd rfl (.inl rfl) (pe_call C__law_pool.g hr (by rfl) C__law_pool.m C__law_pool.k C__law_pool.b .nil pass0 (pa_cons (pv 0) (pa_cons (pv 1) pa_nil))))
      (pss_cons (ps_set (i := 3) sc_boxes.nd rfl (.inl rfl) (pe_call C__law_pool.g hr (by rfl) C__law_pool.m C__law_pool.k C__law_pool.b .nil pass0 (pa_cons (pv 0) (pa_cons (pv 1) pa_nil))))
      (pss_cons (ps_set (i := 4) sc_boxes.nd rfl (.inl rfl) (pe_lst pa_nil))
      (pss_cons (ps_for PassesOwn.never rfl (pi_range1 (by rfl) m_range (pa_cons (pv 1) pa_nil)) (pg_name (i := 5) sc_boxes.nd rfl (.inl rfl)) (pss_one (ps_expr (pe_bm PySem.F.plainAttrs_list PySem.F.slot_list_append PySem.F.type_list_append mt_append (pv 4) (pa_cons (pe_ix ix_list (pe_lst (pa_cons (pe_ix ix_list (pv 2) (pv 5) (fun _ _ => rfl)) (pa_cons (pe_ix ix_list (pv 2) (pv 5) (fun _ _ => rfl)) (pa_cons (pe_op op_add_str (pe_op op_add_str (pe_ix ix_list (pv 2) (pe_op op_mod (pv 5) pe_int) (fun _ _ => rfl)) pe_str) (pe_ix ix_list (pv 3) (pv 5) (fun _ _ => rfl))) pa_nil)))) (pe_call C__law_draw.g hr (by rfl) C__law_draw.m C__law_draw.k C__law_draw.b .nil pass0 (pa_cons (pv 0) (pa_cons pe_int pa_nil))) (fun _ _ => rfl)) pa_nil)))))
      (pss_one (ps_ret (pv 4))))))), ?_⟩
    refine ⟨.ref d, rfl, .int m, rfl, d, m, rfl, hD, hm, fun H1 A1 hs nA1 x1 D1 hA1 lhs phs => ?_⟩
    refine ⟨.ref d, rfl, .int m, rfl, d, m, rfl, D1, hm, fun H2 A2 fs nA2 x2 D2 hA2 lfs pfs => ?_⟩
    have dA1 : d ≠ A1 := fun z => by obtain ⟨_, _, h, _⟩ := hD; rw [← z, h] at nA1; cases nA1
    have dA2 : d ≠ A2 := fun z => by obtain ⟨_, _, h, _⟩ := D1; rw [← z, h] at nA2; cases nA2
    have hA12 := x2.lst hA1 (by simpa using dA1.symm)
    refine ⟨Nat.zero_le _, fun B nB => ?_⟩
    obtain ⟨yB, hB⟩ := nw46 (o := .lst []) nB
    have dB : d ≠ B := (D2.ne nB).symm
    have A1B : A1 ≠ B := ne_of_none hA12 nB
    have A2B : A2 ≠ B := ne_of_none hA2 nB
    have x03 : Ex [d] H (upd H2 B (.lst [])) := (x1.trans x2).trans yB.nil
    have hA13 := yB.lst hA12
    have hA23 := yB.lst hA2
    have D3 := D2.ex yB (by simp)
    generalize upd H2 B (.lst []) = H3 at yB hB x03 hA13 hA23 D3 ⊢
    refine ⟨.int m, rfl, m, rfl, by omega, by omega, for_range (lo := 0) (n := (m : Int).toNat) (fun i σ H4 => ∃ (y : Option V) (zs : List Str), σ = [some (.ref d), some (.int m), some (.ref A1), some (.ref A2), some (.ref B), y] ∧ H4 B = some (.lst (zs.map V.str)) ∧ zs.length = i ∧ (∀ z ∈ zs, z.length ≤ 20) ∧ Ex [d, B] H3 H4 ∧ St2 H4 d) ?_ ?_ ?_⟩
    · exact ⟨_, [], rfl, hB, rfl, by simp, .refl, D3⟩
    · rintro i σ H4 hi ⟨y, zs, rfl, h4, lz, pz, x4, D4⟩
      have hA14 := x4.lst hA13 (by simp [A1B, dA1.symm])
      have hA24 := x4.lst hA23 (by simp [A2B, dA2.symm])
      have hi2 : i < m := by omega
      have e1 : hs[i]? = some hs[i] := List.getElem?_eq_getElem (by omega)
      have e2 : fs[i]? = some fs[i] := List.getElem?_eq_getElem (by omega)
      have e3 : hs[i % 2]? = some hs[i % 2] := List.getElem?_eq_getElem (by omega)
      have a1 : atI (hs.map V.str) ((0 : Int) + (i : Int)) = some (.str hs[i]) := by rw [Int.zero_add]; exact atI_nat (by rw [List.getElem?_map, e1]; rfl)
      have a2 : atI (fs.map V.str) ((0 : Int) + (i : Int)) = some (.str fs[i]) := by rw [Int.zero_add]; exact atI_nat (by rw [List.getElem?_map, e2]; rfl)
      have a3 : atI (hs.map V.str) (((0 : Int) + (i : Int)) % 2) = some (.str hs[i % 2]) := by
        rw [Int.zero_add, show ((i : Int) % 2) = ((i % 2 : Nat) : Int) from rfl]
        exact atI_nat (by rw [List.getElem?_map, e3]; rfl)
      have l1 := (phs _ (List.getElem_mem (by omega : i < hs.length))).l
      have l2 := (pfs _ (List.getElem_mem (by omega : i < fs.length))).l
      have l3 := (phs _ (List.getElem_mem (by omega : i % 2 < hs.length))).l
      generalize hs[i] = za at a1 l1
      generalize fs[i] = zb at a2 l2
      generalize hs[i % 2] = zc at a3 l3
      have ld : (zc ++ Str.ofString ".").length = zc.length + 1 := Str.length_append _ _
      have le : (zc ++ Str.ofString "." ++ zb).length = (zc ++ Str.ofString ".").length + zb.length := Str.length_append _ _
      refine ⟨.ref B, rfl, .inl ⟨rfl, _, .of h4⟩, .ref A1, rfl, .int (0 + (i : Int)), rfl, A1, _, _, _, rfl, rfl, .of hA14, a1, .ref A1, rfl, .int (0 + (i : Int)), rfl, A1, _, _, _, rfl, rfl, .of hA14, a1, .ref A1, rfl, .int (0 + (i : Int)), rfl, _, 2, rfl, rfl, (by show (0 : Int) < 2; decide), A1, _, _, _, rfl, rfl, .of hA14, a3, zc, Str.ofString ".", rfl, rfl, Nat.le_trans (show _ ≤ 9 by show zc.length + 1 ≤ 9; omega) (by decide), .ref A2, rfl, .int (0 + (i : Int)), rfl, A2, _, _, _, rfl, rfl, .of hA24, a2, zc ++ Str.ofString ".", zb, rfl, rfl, Nat.le_trans (show _ ≤ 17 by omega) (by decide), (by show 3 ≤ sizeLine; decide), fun M nM => ?_⟩
      obtain ⟨yM, hM⟩ := nw46 (o := .lst [.str za, .str za, .str (zc ++ Str.ofString "." ++ zb)]) nM
      have hB5 := yM.lst h4
      have D5 := D4.ex yM (by simp)
      have dM : d ≠ M := (D4.ne nM).symm
      have BM : B ≠ M := ne_of_none h4 nM
      generalize upd H4 M (.lst [.str za, .str za, .str (zc ++ Str.ofString "." ++ zb)]) = H5 at yM hM hB5 D5 ⊢
      refine ⟨.ref d, rfl, d, 3, rfl, D5, by decide, by decide, fun H6 u u0 u1 x6 D6 => ?_⟩
      have hM6 := x6.lst hM (by simpa using dM.symm)
      have hB6 := x6.lst hB5 (by simpa using dB.symm)
      obtain ⟨zz, ez, lzz⟩ : ∃ zz, atI [V.str za, .str za, .str (zc ++ Str.ofString "." ++ zb)] u = some (.str zz) ∧ zz.length ≤ 20 := by
        obtain ⟨x, h1, h2⟩ := atZ (xs := [V.str za, .str za, .str (zc ++ Str.ofString "." ++ zb)]) u0 u1
        have h3 := List.mem_of_getElem? h2
        simp only [List.mem_cons, List.not_mem_nil, or_false] at h3
        rcases h3 with rfl | rfl | rfl
        · exact ⟨_, h1, by omega⟩
        · exact ⟨_, h1, by omega⟩
        · exact ⟨_, h1, by omega⟩
      refine ⟨M, _, u, .str zz, rfl, rfl, .of hM6, ez, B, _, .str zz, rfl, rfl, hB6, by rw [List.length_map, lz]; exact Nat.lt_of_lt_of_le (show i < 27 by omega) (by decide), ?_⟩
      have xp : Ex [B] H6 (upd H6 B (.lst (zs.map V.str ++ [.str zz]))) := .put hB6 nt_lst (by simp)
      refine ⟨_, zs ++ [zz], rfl, by rw [upd_same, List.map_append]; rfl, by rw [List.length_append, lz]; rfl, fun z hz => ?_, (x4.trans (yM.nil.trans (x6.mono (by simp)))).trans (xp.mono (by simp)), D6.ex xp (by simpa using dB)⟩
      rcases List.mem_append.mp hz with m | m
      · exact pz z m
      · rw [List.mem_singleton.mp m]; exact lzz
    · rintro σ H4 ⟨y, zs, rfl, h4, lz, pz, x4, D4⟩
      have nB0 : H B = none := x1.f _ (x2.f _ nB)
      refine ⟨_, rfl, q H4 B zs nB0 (ex_onto (fun z hz => ?_) x03 x4) D4 h4 (by rw [lz]; rfl) pz⟩
      simp only [List.mem_cons, List.not_mem_nil, or_false] at hz
      rcases hz with rfl | rfl
      · exact .inl (by simp)
      · exact .inr nB0
end
end K48

set_option maxHeartbeats 8000000
namespace K48
open PySem PySem.Spec PyProof.Rows L2 Kk RZ
/-! words of a drawn row -/
def InB (B : List Str) (b : Bx) : Prop := ∃ z ∈ B, b = .s z
def WdR (B Wn : List Str) : Wo → Prop
  | .take b s => InB B b ∧ s ∈ Wn
  | .ask b => InB B b
  | .number b n => InB B b ∧ 0 ≤ n ∧ n < 10000
  | .copy b c => InB B b ∧ InB B c
  | .mix b c d => InB B b ∧ InB B c ∧ InB B d
  | .opn b c => InB B b ∧ InB B c
  | .tell b => InB B b
  | .wipe b => InB B b
theorem InB.tk {B : List Str} {b : Bx} (h : InB B b) : isS b = true := by obtain ⟨z, _, rfl⟩ := h; rfl
theorem WdR.all {B Wn : List Str} {W : Wo} (h : WdR B Wn W) : ∀ b ∈ boxW W :: askB W, InB B b := by
  intro b hb
  cases W <;> simp only [boxW, askB, List.mem_cons, List.not_mem_nil, or_false] at hb
  case take => rw [hb]; exact h.1
  case ask => rw [hb]; exact h
  case number => rw [hb]; exact h.1
  case copy =>
    rcases hb with rfl | rfl
    · exact h.1
    · exact h.2
  case mix =>
    rcases hb with rfl | rfl | rfl
    · exact h.1
    · exact h.2.1
    · exact h.2.2
  case opn =>
    rcases hb with rfl | rfl
    · exact h.1
    · exact h.2
  case tell => rcases hb with rfl | rfl <;> exact h
  case wipe => rw [hb]; exact h
theorem WdR.kd {B Wn : List Str} {W : Wo} (h : WdR B Wn W) : KdW true W := ⟨(h.all _ List.mem_cons_self).tk, fun b hb => (h.all b (List.mem_cons_of_mem _ hb)).tk⟩
theorem WdR.str {B Wn : List Str} {W : Wo} (h : WdR B Wn W) (p : ∀ s ∈ Wn, PoolOk s) : StrW W := fun s e => by
  cases W with
  | take b s' =>
    obtain rfl : s' = s := PyData.str.inj (List.cons.inj e).1
    exact (p _ h.2).s
  | _ => cases e
section
variable {P : Program} {w : World} {K : PySem.W.Frag} {mg : Str → Option Value} {base : Heap}
def spStraight (K : PySem.W.Frag) : Sp := fun vs H Q _ => ∃ (d b w : Addr) (B Wn : List Str) (m : Nat), vs = [.ref d, .ref b, .ref w, .int m] ∧ St2 H d ∧ H b = some (.lst (B.map V.str)) ∧ H w = some (.lst (Wn.map V.str)) ∧ 0 < B.length ∧ B.length ≤ 30 ∧ 0 < Wn.length ∧ Wn.length ≤ 30 ∧ m ≤ 40 ∧
  ∀ H' p us (ws : List Wo), H p = none → Ex [d] H H' → St2 H' d → H' p = some (.lst us) → P2 (WoH K H') us ws → ws.length = m → (∀ W ∈ ws, WdR B Wn W) → Q (.ref p) H'
theorem ok_straight {f f1 f2 : Addr} {fd d1 d2 : FuncData} {k : Nat} (F : Fun K "_law_straight" "_law_straight" s_straight f fd) (C__law_draw : Cl P w K mg base k "_law_draw" ["_law_state", "_law_many"] spDraw f1 d1) (C__law_one : Cl P w K mg base k "_law_one" ["_law_state", "_law_row_here"] (spOne K) f2 d2) (m_range : mg "range" = none) : FnOk P w K mg base CX0 (k + 1) f fd ["_law_state", "_law_boxes_here", "_law_worths", "_law_many"] (spStraight K) := by
  refine F.ok sc_straight (fun vs H Q E h => ?_) (fun cdv A outer s H vs Q E hr h => ?_)
  · obtain ⟨d, b, w, B, Wn, m, rfl, _⟩ := h; rfl
  · obtain ⟨d, b, w, B, Wn, m, rfl, hD, hb, hw, hB0, hB1, hW0, hW1, hm, q⟩ := h
    refine ⟨_, (pss_cons (ps_set (i := 4) sc_straight.nd rfl (.inl rfl) (pe_lst pa_nil))
      (pss_cons (ps_for PassesOwn.never rfl (pi_range1 (by rfl) m_range (pa_cons (pv 3) pa_nil)) (pg_name (i := 5) sc_straight.nd rfl (.inl rfl)) (pss_cons (ps_set (i := 6) sc_straight.nd rfl (.inl rfl) (pe_call C__law_draw.g hr (by rfl) C__law_draw.m C__law_draw.k C__law_draw.b .nil pass0 (pa_cons (pv 0) (pa_cons pe_int pa_nil))))
      (pss_cons (ps_asg (pe_lc (own := [("_law_j", 10)]) (g := gName 10) (tt := tYes) rfl sc_straight.nd (pi_range1 (by rfl) m_range (pa_cons pe_int pa_nil)) (blkOk_by (N := n_straight) (sc := defScope s_straight) (by decide +kernel)) (fun _ _ _ _ _ => pg_name (i := 10) sc_straight.nd rfl (Or.inl rfl)) (fun _ _ _ _ _ => pts_nil) (fun _ _ _ _ _ => (pe_call C__law_one.g hr (by rfl) C__law_one.m C__law_one.k C__law_one.b .nil pass0 (pa_cons (pv 0) (pa_cons (pv 1) pa_nil))))) (pg_lst rfl (pgs_cons (pg_name (i := 7) sc_straight.nd rfl (.inl rfl)) (pgs_cons (pg_name (i := 8) sc_straight.nd rfl (.inl rfl)) (pgs_cons (pg_name (i := 9) sc_straight.nd rfl (.inl rfl)) pgs_nil)))))
      (pss_one (ps_if (pt_cmpR op_lt (pv 6) pe_int (nomark _)) (pss_one (ps_expr (pe_bm PySem.F.plainAttrs_list PySem.F.slot_list_append PySem.F.type_list_append mt_append (pv 4) (pa_cons (pe_tup (pa_cons pe_str (pa_cons (pv 7) (pa_cons (pe_call C__law_one.g hr (by rfl) C__law_one.m C__law_one.k C__law_one.b .nil pass0 (pa_cons (pv 0) (pa_cons (pv 2) pa_nil))) pa_nil)))) pa_nil)))) (pss_one (ps_if (pt_cmpR op_eq (pv 6) pe_int (nomark _)) (pss_one (ps_expr (pe_bm PySem.F.plainAttrs_list PySem.F.slot_list_append PySem.F.type_list_append mt_append (pv 4) (pa_cons (pe_tup (pa_cons pe_str (pa_cons (pv 7) pa_nil))) pa_nil)))) (pss_one (ps_if (pt_cmpR op_eq (pv 6) pe_int (nomark _)) (pss_one (ps_expr (pe_bm PySem.F.plainAttrs_list PySem.F.slot_list_append PySem.F.type_list_append mt_append (pv 4) (pa_cons (pe_tup (pa_cons pe_str (pa_cons (pv 7) (pa_cons (pe_ix ix_list (pe_lst (pa_cons pe_int (pa_cons pe_int (pa_cons pe_int (pa_cons (pe_call C__law_draw.g hr (by rfl) C__law_draw.m C__law_draw.k C__law_draw.b .nil pass0 (pa_cons (pv 0) (pa_cons pe_int pa_nil))) pa_nil))))) (pe_call C__law_draw.g hr (by rfl) C__law_draw.m C__law_draw.k C__law_draw.b .nil pass0 (pa_cons (pv 0) (pa_cons pe_int pa_nil))) (fun _ _ => rfl)) pa_nil)))) pa_nil)))) (pss_one (ps_if (pt_cmpR op_lt (pv 6) pe_int (nomark _)) (pss_one (ps_expr (pe_bm PySem.F.plainAttrs_list PySem.F.slot_list_append PySem.F.type_list_append mt_append (pv 4) (pa_cons (pe_tup (pa_cons pe_str (pa_cons (pv 7) (pa_cons (pv 8) pa_nil)))) pa_nil)))) (pss_one (ps_if (pt_cmpR op_lt (pv 6) pe_int (nomark _)) (pss_one (ps_expr (pe_bm PySem.F.plainAttrs_list PySem.F.slot_list_append PySem.F.type_list_append mt_append (pv 4) (pa_cons (pe_tup (pa_cons pe_str (pa_cons (pv 7) (pa_cons (pv 8) (pa_cons (pv 9) pa_nil))))) pa_nil)))) (pss_one (ps_if (pt_cmpR op_eq (pv 6) pe_int (nomark _)) (pss_one (ps_expr (pe_bm PySem.F.plainAttrs_list PySem.F.slot_list_append PySem.F.type_list_append mt_append (pv 4) (pa_cons (pe_tup (pa_cons pe_str (pa_cons (pv 7) (pa_cons (pv 8) pa_nil)))) pa_nil)))) (pss_one (ps_if (pt_cmpR op_lt (pv 6) pe_int (nomark _)) (pss_one (ps_expr (pe_bm PySem.F.plainAttrs_list PySem.F.slot_list_append PySem.F.type_list_append mt_append (pv 4) (pa_cons (pe_tup (pa_cons pe_str (pa_cons (pv 7) pa_nil))) pa_nil)))) (pss_one (ps_expr (pe_bm PySem.F.plainAttrs_list PySem.F.slot_list_append PySem.F.type_list_append mt_append (pv 4) (pa_cons (pe_tup (pa_cons pe_str (pa_cons (pv 7) pa_nil))) pa_nil)))))))))))))))))))))
      (pss_one (ps_ret (pv 4))))), ?_⟩
    have bd : b ≠ d := fun z => by obtain ⟨_, _, h, _⟩ := hD; rw [z, h] at hb; have := congrArg List.length (HO.lst.inj (Option.some.inj hb)); cases B with | nil => cases hB0 | cons a r => cases (List.cons.inj (HO.lst.inj (Option.some.inj hb))).1
    have wd : w ≠ d := fun z => by obtain ⟨_, _, h, _⟩ := hD; rw [z, h] at hw; cases Wn with | nil => cases hW0 | cons a r => cases (List.cons.inj (HO.lst.inj (Option.some.inj hw))).1
    refine ⟨Nat.zero_le _, fun R nR => ?_⟩
    obtain ⟨yR, hR⟩ := nw46 (o := .lst []) nR
    have dR : d ≠ R := (hD.ne nR).symm
    have bR : b ≠ R := ne_of_none hb nR
    have wR : w ≠ R := ne_of_none hw nR
    have hb1 := yR.lst hb
    have hw1 := yR.lst hw
    have D1 := hD.ex yR (by simp)
    have nR0 := nR
    generalize upd H R (.lst []) = H1 at yR hR hb1 hw1 D1 ⊢
    refine ⟨.int m, rfl, m, rfl, by omega, by omega, for_range (lo := 0) (n := (m : Int).toNat) (fun i σ H4 => ∃ (y5 y6 y7 y8 y9 : Option V) (us : List V) (ws : List Wo), σ = [some (.ref d), some (.ref b), some (.ref w), some (.int m), some (.ref R), y5, y6, y7, y8, y9, none] ∧ H4 R = some (.lst us) ∧ P2 (WoH K H4) us ws ∧ ws.length = i ∧ (∀ W ∈ ws, WdR B Wn W) ∧ Ex [d, R] H1 H4 ∧ St2 H4 d) ?_ ?_ ?_⟩
    · exact ⟨_, _, _, _, _, [], [], rfl, hR, .nil, rfl, by simp, .refl, D1⟩
    · rintro i σ H4 hi ⟨y5, y6, y7, y8, y9, us, ws, rfl, h4, p4, l4, w4, x4, D4⟩
      refine ⟨.ref d, rfl, d, 12, rfl, D4, by decide, by decide, fun H5 way v0 v1 x5 D5 => ?_⟩
      have x15 := x4.trans (x5.mono (by simp) : Ex [d, R] H4 H5)
      refine ⟨3, rfl, by decide, by decide, fun L nL => ?_⟩
      obtain ⟨yL, hL⟩ := nw46 (o := .lst []) nL
      have dL : d ≠ L := (D5.ne nL).symm
      have hb5 : H5 b = some (.lst (B.map V.str)) := x15.lst hb1 (by simp [bd, bR])
      have hw5 : H5 w = some (.lst (Wn.map V.str)) := x15.lst hw1 (by simp [wd, wR])
      have h5 : H5 R = some (.lst us) := x5.lst h4 (by simpa using dR.symm)
      have bL : b ≠ L := ne_of_none hb5 nL
      have wL : w ≠ L := ne_of_none hw5 nL
      have RL : R ≠ L := ne_of_none h5 nL
      refine lc_range (lo := 0) (n := (3 : Int).toNat) (fun j H6 => ∃ zs : List Str, H6 L = some (.lst (zs.map V.str)) ∧ zs.length = j ∧ (∀ z ∈ zs, z ∈ B) ∧ Ex [d, L] (upd H5 L (.lst [])) H6 ∧ St2 H6 d) ?_ ?_ ?_
      · exact ⟨[], hL, rfl, by simp, .refl, D5.ex yL (by simp)⟩
      · rintro j H6 hj ⟨zs, h6, l6, z6, x6, D6⟩
        refine ⟨rfl, tyes_if ⟨.ref d, rfl, .ref b, rfl, d, b, B.map V.str, rfl, D6, bd, .of (x6.lst (yL.lst hb5) (by simp [bd, bL])), by rw [List.length_map]; exact hB0, by rw [List.length_map]; omega, fun H7 u x hx x7 D7 => ?_⟩⟩
        obtain ⟨z, hz, rfl⟩ := List.mem_map.mp (List.mem_of_getElem? hx)
        have h7 := x7.lst h6 (by simpa using dL.symm)
        have xp : Ex [L] H7 (upd H7 L (.lst (zs.map V.str ++ [.str z]))) := .put h7 nt_lst (by simp)
        refine ⟨_, h7, by rw [List.length_map, l6]; exact Nat.lt_of_lt_of_le (show j < 4 by omega) (by decide), zs ++ [z], by rw [upd_same, List.map_append]; rfl, by rw [List.length_append, l6]; rfl, fun y hy => ?_, (x6.trans (x7.mono (by simp))).trans (xp.mono (by simp)), D7.ex xp (by simpa using dL)⟩
        rcases List.mem_append.mp hy with m | m
        · exact z6 y m
        · rw [List.mem_singleton.mp m]; exact hz
      · rintro H6 ⟨zs, h6, l6, z6, x6, D6⟩
        match zs, l6, h6, z6 with
        | [sx, sy, sz], _, h6, z6 =>
        have mx : InB B (.s sx) := ⟨sx, z6 sx (by simp), rfl⟩
        have my : InB B (.s sy) := ⟨sy, z6 sy (by simp), rfl⟩
        have mz : InB B (.s sz) := ⟨sz, z6 sz (by simp), rfl⟩
        refine ⟨L, _, rfl, .of h6, rfl, _, _, rfl, _, _, rfl, _, _, rfl, rfl, ?_⟩
        have x56 : Ex [d] H5 H6 := ex_onto (fun z hz => by
          simp only [List.mem_cons, List.not_mem_nil, or_false] at hz
          rcases hz with rfl | rfl
          · exact .inl (by simp)
          · exact .inr nL) yL.nil x6
        have x16 := x15.trans (x56.mono (by simp) : Ex [d, R] H5 H6)
        have hR6 : H6 R = some (.lst us) := x56.lst h5 (by simpa using dR.symm)
        have hw6 : H6 w = some (.lst (Wn.map V.str)) := x56.lst hw5 (by simpa using wd)
        have p6 : P2 (WoH K H6) us ws := p4.imp fun _ _ h => (h.ex x5).ex x56
        have lus : us.length = i := by rw [p4.len, l4]
        have app : ∀ {H7 : Hp} {W : Wo} {t : Addr} {vs : List V}, Ex [d] H6 H7 → St2 H7 d → WdR B Wn W → H7 t = some (.tup vs) → WoX H7 W vs → SqL K H7 R us ∧ ∃ (l : Addr) (xs : List V) (v : V), V.ref R = .ref l ∧ [V.ref t] = [v] ∧ H7 l = some (.lst xs) ∧ xs.length < sizeLine ∧ (∃ (z5 z6 z7 z8 z9 : Option V) (us : List V) (ws : List Wo), [some (V.ref d), some (.ref b), some (.ref w), some (.int m), some (.ref R), some (.int (0 + (i : Int))), some (.int way), some (.str sx), some (.str sy), some (.str sz), none] = [some (.ref d), some (.ref b), some (.ref w), some (.int m), some (.ref R), z5, z6, z7, z8, z9, none] ∧ (upd H7 l (.lst (xs ++ [v]))) R = some (.lst us) ∧ P2 (WoH K (upd H7 l (.lst (xs ++ [v])))) us ws ∧ ws.length = i + 1 ∧ (∀ W ∈ ws, WdR B Wn W) ∧ Ex [d, R] H1 (upd H7 l (.lst (xs ++ [v]))) ∧ St2 (upd H7 l (.lst (xs ++ [v]))) d) := fun {H7 W t vs} x7 D7 wd7 ht hx => by
          have hR7 := x7.lst hR6 (by simpa using dR.symm)
          have xp : Ex [R] H7 (upd H7 R (.lst (us ++ [.ref t]))) := .put hR7 nt_lst (by simp)
          refine ⟨.of hR7, R, us, .ref t, rfl, rfl, hR7, by rw [lus]; exact Nat.lt_of_lt_of_le (show i < 41 by omega) (by decide), _, _, _, _, _, us ++ [.ref t], ws ++ [W], rfl, upd_same, ?_, by rw [List.length_append, l4]; rfl, fun V hV => ?_, (x16.trans (x7.mono (by simp))).trans (xp.mono (by simp)), D7.ex xp (by simpa using dR)⟩
          · exact ((p6.imp fun _ _ h => h.ex x7).app (.cons ⟨t, vs, rfl, .of ht, hx⟩ .nil)).imp fun _ _ h => h.ex xp
          · rcases List.mem_append.mp hV with m | m
            · exact w4 V m
            · rw [List.mem_singleton.mp m]; exact wd7
        refine ⟨.int way, rfl, way, 2, rfl, rfl, _, rfl, ite2 (fun _ => ?_) (fun _ => ?_)⟩
        · skip
          refine ⟨.ref R, rfl, .inl ⟨rfl, _, .of hR6⟩, .str sx, rfl, .ref d, rfl, .ref w, rfl, d, w, Wn.map V.str, rfl, D6, wd, .of hw6, by rw [List.length_map]; exact hW0, by rw [List.length_map]; omega, fun H7 u x hx x7 D7 => ?_⟩
          obtain ⟨sw, hsw, rfl⟩ := List.mem_map.mp (List.mem_of_getElem? hx)
          refine ⟨(by show 3 ≤ sizeLine; decide), fun t nt => ?_⟩
          obtain ⟨yt, ht⟩ := nw46 (o := .tup [V.str (Str.ofString "take"), .str sx, .str sw]) nt
          exact (app (W := .take (.s sx) sw) (x7.trans yt.nil) (D7.ex yt (by simp)) ⟨mx, hsw⟩ ht ⟨_, rfl, rfl⟩).2
        refine ⟨.int way, rfl, rfl, _, rfl, ite2 (fun _ => ?_) (fun _ => ?_)⟩
        · skip
          refine ⟨.ref R, rfl, .inl ⟨rfl, _, .of hR6⟩, .str sx, rfl, (by show 2 ≤ sizeLine; decide), fun t nt => ?_⟩
          obtain ⟨yt, ht⟩ := nw46 (o := .tup [V.str (Str.ofString "ask"), .str sx]) nt
          exact (app (W := .ask (.s sx)) yt.nil (D6.ex yt (by simp)) mx ht ⟨_, rfl, rfl⟩).2
        refine ⟨.int way, rfl, rfl, _, rfl, ite2 (fun _ => ?_) (fun _ => ?_)⟩
        · skip
          refine ⟨.ref R, rfl, .inl ⟨rfl, _, .of hR6⟩, .str sx, rfl, .ref d, rfl, d, 10000, rfl, D6, by decide, by decide, fun H7 u u0 u1 x7 D7 => ?_⟩
          refine ⟨(by show 4 ≤ sizeLine; decide), fun M nM => ?_⟩
          obtain ⟨yM, hM⟩ := nw46 (o := .lst [V.int 0, .int 1, .int 9999, .int u]) nM
          have D8 := D7.ex yM (by simp)
          have dM : d ≠ M := (D7.ne nM).symm
          refine ⟨.ref d, rfl, d, 4, rfl, D8, by decide, by decide, fun H9 v9 w0 w1 x9 D9 => ?_⟩
          obtain ⟨nn, en, n0, n1⟩ : ∃ nn : Int, atI [V.int 0, .int 1, .int 9999, .int u] v9 = some (.int nn) ∧ 0 ≤ nn ∧ nn < 10000 := by
            obtain ⟨x, h1, h2⟩ := atZ (xs := [V.int 0, .int 1, .int 9999, .int u]) w0 w1
            have h3 := List.mem_of_getElem? h2
            simp only [List.mem_cons, List.not_mem_nil, or_false] at h3
            rcases h3 with rfl | rfl | rfl | rfl
            · exact ⟨_, h1, by decide, by decide⟩
            · exact ⟨_, h1, by decide, by decide⟩
            · exact ⟨_, h1, by decide, by decide⟩
            · exact ⟨_, h1, u0, u1⟩
          refine ⟨M, _, v9, .int nn, rfl, rfl, .of (x9.lst hM (by simpa using dM.symm)), en, (by show 3 ≤ sizeLine; decide), fun t nt => ?_⟩
          obtain ⟨yt, ht⟩ := nw46 (o := .tup [V.str (Str.ofString "number"), .str sx, .int nn]) nt
          exact (app (W := .number (.s sx) nn) (x7.trans (yM.nil.trans (x9.trans yt.nil))) (D9.ex yt (by simp)) ⟨mx, n0, n1⟩ ht ⟨_, rfl, rfl⟩).2
        refine ⟨.int way, rfl, way, 6, rfl, rfl, _, rfl, ite2 (fun _ => ?_) (fun _ => ?_)⟩
        · skip
          refine ⟨.ref R, rfl, .inl ⟨rfl, _, .of hR6⟩, .str sx, rfl, .str sy, rfl, (by show 3 ≤ sizeLine; decide), fun t nt => ?_⟩
          obtain ⟨yt, ht⟩ := nw46 (o := .tup [V.str (Str.ofString "copy"), .str sx, .str sy]) nt
          exact (app (W := .copy (.s sx) (.s sy)) yt.nil (D6.ex yt (by simp)) ⟨mx, my⟩ ht ⟨_, _, rfl, rfl, rfl⟩).2
        refine ⟨.int way, rfl, way, 8, rfl, rfl, _, rfl, ite2 (fun _ => ?_) (fun _ => ?_)⟩
        · skip
          refine ⟨.ref R, rfl, .inl ⟨rfl, _, .of hR6⟩, .str sx, rfl, .str sy, rfl, .str sz, rfl, (by show 4 ≤ sizeLine; decide), fun t nt => ?_⟩
          obtain ⟨yt, ht⟩ := nw46 (o := .tup [V.str (Str.ofString "mix"), .str sx, .str sy, .str sz]) nt
          exact (app (W := .mix (.s sx) (.s sy) (.s sz)) yt.nil (D6.ex yt (by simp)) ⟨mx, my, mz⟩ ht ⟨_, _, _, rfl, rfl, rfl, rfl⟩).2
        refine ⟨.int way, rfl, rfl, _, rfl, ite2 (fun _ => ?_) (fun _ => ?_)⟩
        · skip
          refine ⟨.ref R, rfl, .inl ⟨rfl, _, .of hR6⟩, .str sx, rfl, .str sy, rfl, (by show 3 ≤ sizeLine; decide), fun t nt => ?_⟩
          obtain ⟨yt, ht⟩ := nw46 (o := .tup [V.str (Str.ofString "open"), .str sx, .str sy]) nt
          exact (app (W := .opn (.s sx) (.s sy)) yt.nil (D6.ex yt (by simp)) ⟨mx, my⟩ ht ⟨_, _, rfl, rfl, rfl⟩).2
        refine ⟨.int way, rfl, way, 11, rfl, rfl, _, rfl, ite2 (fun _ => ?_) (fun _ => ?_)⟩
        · skip
          refine ⟨.ref R, rfl, .inl ⟨rfl, _, .of hR6⟩, .str sx, rfl, (by show 2 ≤ sizeLine; decide), fun t nt => ?_⟩
          obtain ⟨yt, ht⟩ := nw46 (o := .tup [V.str (Str.ofString "tell"), .str sx]) nt
          exact (app (W := .tell (.s sx)) yt.nil (D6.ex yt (by simp)) mx ht ⟨_, rfl, rfl⟩).2
        refine ⟨.ref R, rfl, .inl ⟨rfl, _, .of hR6⟩, .str sx, rfl, (by show 2 ≤ sizeLine; decide), fun t nt => ?_⟩
        obtain ⟨yt, ht⟩ := nw46 (o := .tup [V.str (Str.ofString "wipe"), .str sx]) nt
        exact (app (W := .wipe (.s sx)) yt.nil (D6.ex yt (by simp)) mx ht ⟨_, rfl, rfl⟩).2
    · rintro σ H4 ⟨y5, y6, y7, y8, y9, us, ws, rfl, h4, p4, l4, w4, x4, D4⟩
      refine ⟨_, rfl, q H4 R us ws nR0 (ex_onto (fun z hz => ?_) yR.nil x4) D4 h4 p4 (by rw [l4]; rfl) w4⟩
      simp only [List.mem_cons, List.not_mem_nil, or_false] at hz
      rcases hz with rfl | rfl
      · exact .inl (by simp)
      · exact .inr nR0
end
end K48

set_option maxHeartbeats 8000000
namespace K48
open PySem PySem.Spec PyProof.Rows L2 Kk RZ
abbrev s_wiped : Stmt := topS 42
abbrev n_wiped : List Str := ["_law_state", "_law_row_here", "_law_left"]
theorem sc_wiped : FnScope n_wiped ["_law_state", "_law_row_here"] (defScope s_wiped) := ⟨rfl, rfl, rfl, by decide +kernel, rfl, by decide +kernel, by decide +kernel⟩
theorem op_ne_nil {X : Cx} {k : Nat} (hr : Room k X.A) : OpR X (compareOp .NotEq) (fun x y H Q => ∃ a b xs, x = .ref a ∧ y = .ref b ∧ SqL X.K H a xs ∧ SqL X.K H b [] ∧ Q (.bl (!xs.isEmpty)) H) := by
  intro pins s σ H x y v u Q I rx ry h
  obtain ⟨a, b, xs, rfl, rfl, ha, hb, q⟩ := h
  cases (show v = Value.ref a from rx)
  cases (show u = Value.ref b from ry)
  obtain ⟨its, r, pl, hz⟩ := I.list ha
  obtain ⟨its2, r2, pl2, hz2⟩ := I.list hb
  have e2 : its2 = [] := List.length_eq_zero_iff.mp r2.length.symm
  subst e2
  cases xs with
  | nil =>
    have e1 : its = [] := List.length_eq_zero_iff.mp r.length.symm
    subst e1
    exact SeqAt.RcNeAt.lists (e := fun _ => true) pl.isList pl2.isList rfl hr.units0 (fun j h1 _ => absurd h1 (Nat.not_lt_zero j)) X.prog X.w X.xe _ ⟨.bl false, H, I, rfl, q⟩
  | cons z zs =>
    have e1 : its.length = zs.length + 1 := r.length.symm
    refine SeqAt.RcNeAt.lists_lengths pl.isList pl2.isList ?_ hr.units0 X.prog X.w X.xe _ ⟨.bl true, H, I, rfl, q⟩
    simp [e1]

theorem ixN_of {n : Nat} {i : Int} (h0 : 0 ≤ i) (h1 : i < n) : ixN n i = some i.toNat := by
  unfold ixN; rw [if_pos h0, if_pos h1]
/-! what keeps a worth in the law's own doing -/
def hk (n0 : Nat) (l : Ld) : Bx → Bool := fun b => (hg n0 l.hv b).2
theorem hk_step {n0 : Nat} {l : Ld} {W : Wo} : hk n0 (stepL n0 l W) = stepK (hk n0 l) W := by
  funext b
  have st : ∀ (c : Bx) (p : Nat × Bool), (hg n0 (stB l.hv c p) b).2 = if b = c then p.2 else (hg n0 l.hv b).2 := fun c p => by
    unfold hg
    rw [lkB_st]
    split <;> rfl
  cases W with
  | tell c => show (hg n0 l.hv b).2 = if b = c ∧ true = false then _ else _; rw [if_neg fun z => by cases z.2]; rfl
  | take c s =>
    refine (st c _).trans ?_
    show _ = if b = c ∧ false = false then _ else _
    by_cases e : b = c
    · rw [if_pos e, if_pos ⟨e, rfl⟩]; rfl
    · rw [if_neg e, if_neg fun z => e z.1]; rfl
  | ask c =>
    refine (st c _).trans ?_
    show _ = if b = c ∧ false = false then _ else _
    by_cases e : b = c
    · rw [if_pos e, if_pos ⟨e, rfl⟩]; rfl
    · rw [if_neg e, if_neg fun z => e z.1]; rfl
  | number c n =>
    refine (st c _).trans ?_
    show _ = if b = c ∧ false = false then _ else _
    by_cases e : b = c
    · rw [if_pos e, if_pos ⟨e, rfl⟩]; rfl
    · rw [if_neg e, if_neg fun z => e z.1]; rfl
  | wipe c =>
    refine (st c _).trans ?_
    show _ = if b = c ∧ false = false then _ else _
    by_cases e : b = c
    · rw [if_pos e, if_pos ⟨e, rfl⟩]; rfl
    · rw [if_neg e, if_neg fun z => e z.1]; rfl
  | copy c d =>
    refine (st c _).trans ?_
    show _ = if b = c ∧ false = false then _ else _
    by_cases e : b = c
    · rw [if_pos e, if_pos ⟨e, rfl⟩]; rfl
    · rw [if_neg e, if_neg fun z => e z.1]; rfl
  | mix c d e' =>
    refine (st c _).trans ?_
    show _ = if b = c ∧ false = false then _ else _
    by_cases e : b = c
    · rw [if_pos e, if_pos ⟨e, rfl⟩]; rfl
    · rw [if_neg e, if_neg fun z => e z.1]; rfl
  | opn c d =>
    refine (st c _).trans ?_
    show _ = if b = c ∧ false = false then _ else _
    by_cases e : b = c
    · rw [if_pos e, if_pos ⟨e, rfl⟩]; rfl
    · rw [if_neg e, if_neg fun z => e z.1]; rfl
theorem hk_run {n0 : Nat} : ∀ {ws : List Wo} {l : Ld}, hk n0 (runL n0 l ws) = runK (hk n0 l) ws
  | [], _ => rfl
  | W :: r, l => by
    show hk n0 (runL n0 (stepL n0 l W) r) = runK (stepK (hk n0 l) W) r
    rw [hk_run, hk_step]
theorem left_in {n0 : Nat} {hv : List (Bx × (Nat × Bool))} {b : Bx} (h : (hg n0 hv b).2 = true) : b ∈ leftL hv := by
  unfold hg at h
  cases e : lkB hv b with
  | none => rw [e] at h; cases h
  | some p =>
    rw [e] at h
    exact List.mem_map.mpr ⟨(b, p), List.mem_filter.mpr ⟨lkB_mem e, h⟩, rfl⟩
theorem left_key {hv : List (Bx × (Nat × Bool))} {b : Bx} (h : b ∈ leftL hv) : ∃ p, (b, p) ∈ hv := by
  obtain ⟨x, hx, rfl⟩ := List.mem_map.mp h
  exact ⟨x.2, (List.mem_filter.mp hx).1⟩
theorem left_len (hv : List (Bx × (Nat × Bool))) : (leftL hv).length ≤ hv.length := by
  unfold leftL
  rw [List.length_map]
  exact List.length_filter_le ..
theorem runL_keys {n0 : Nat} {P : Bx → Prop} : ∀ {ws : List Wo} {l : Ld}, (∀ W ∈ ws, P (boxW W)) → (∀ x ∈ l.hv, P x.1) → ∀ x ∈ (runL n0 l ws).hv, P x.1
  | [], _, _, h => h
  | W :: r, l, hw, h => by
    refine runL_keys (ws := r) (l := stepL n0 l W) (fun V hV => hw V (List.mem_cons_of_mem _ hV)) ?_
    have hb := hw W List.mem_cons_self
    have st : ∀ p, ∀ x ∈ stB l.hv (boxW W) p, P x.1 := fun p x hx => by
      rcases stB_mem hx with rfl | hx
      · exact hb
      · exact h x hx
    cases W <;> first
      | exact st _
      | exact h
theorem runK_snoc (f : Bx → Bool) (ws : List Wo) (W : Wo) : runK f (ws ++ [W]) = stepK (runK f ws) W := by unfold runK; rw [List.foldl_append]; rfl
theorem runK_app (f : Bx → Bool) (u v : List Wo) : runK f (u ++ v) = runK (runK f u) v := by unfold runK; rw [List.foldl_append]
theorem mem_eraseIdx {α : Type} {a : α} : ∀ {xs : List α} {j : Nat}, a ∈ xs → (∀ x, xs[j]? = some x → ¬ a = x) → a ∈ xs.eraseIdx j
  | [], _, h, _ => by cases h
  | x :: r, 0, h, n => by
    rcases List.mem_cons.mp h with rfl | h
    · exact absurd rfl (n a rfl)
    · exact h
  | x :: r, j + 1, h, n => by
    rcases List.mem_cons.mp h with rfl | h
    · exact List.mem_cons_self
    · exact List.mem_cons_of_mem _ (mem_eraseIdx h n)
theorem nd_len0 {α : Type} [DecidableEq α] : ∀ (us D : List α), us.Nodup → (∀ a ∈ us, a ∈ D) → us.length ≤ D.length
  | [], _, _, _ => Nat.zero_le _
  | x :: r, D, h, s => by
    rw [List.nodup_cons] at h
    have h1 := nd_len0 r (D.erase x) h.2 fun y hy => (List.mem_erase_of_ne fun z => h.1 (by rw [← z]; exact hy)).mpr (s y (List.mem_cons_of_mem _ hy))
    have h2 := List.length_erase_of_mem (s x List.mem_cons_self)
    have h3 := List.length_pos_of_mem (s x List.mem_cons_self)
    rw [List.length_cons]
    omega
theorem P2.erase {α β : Type} {R : α → β → Prop} {l : List α} {m : List β} (h : P2 R l m) : ∀ j, P2 R (l.eraseIdx j) (m.eraseIdx j) := by
  induction h with
  | nil => intro j; exact .nil
  | cons a t ih =>
    intro j
    cases j with
    | zero => exact t
    | succ j => exact .cons a (ih j)
section
variable {P : Program} {w : World} {K : PySem.W.Frag} {mg : Str → Option Value} {base : Heap}
def NoK (ws : List Wo) : Prop := ∀ b, runK (fun _ => false) ws b = false
def spWiped (K : PySem.W.Frag) : Sp := fun vs H Q _ => ∃ (d r : Addr) (B Wn : List Str) (us : List V) (ws : List Wo), vs = [.ref d, .ref r] ∧ St2 H d ∧ H r = some (.lst us) ∧ r ≠ d ∧ P2 (WoH K H) us ws ∧ (∀ W ∈ ws, WdR B Wn W) ∧ ws.length ≤ 40 ∧ B.length ≤ 30 ∧
  ∀ H' p us' (ws' : List Wo), Ex [d] H H' → St2 H' d → SqT K H' p us' → P2 (WoH K H') us' ws' → (∀ W ∈ ws', WdR B Wn W) → ws'.length ≤ ws.length + B.length → NoK ws' → Q (.ref p) H'
theorem ok_wiped {f f1 f2 : Addr} {fd d1 d2 : FuncData} {k : Nat} (F : Fun K "_law_wiped" "_law_wiped" s_wiped f fd) (C__law_draw : Cl P w K mg base k "_law_draw" ["_law_state", "_law_many"] spDraw f1 d1) (C__law_done : Cl P w K mg base k "_law_done" ["_law_known", "_law_row_here"] (spDone K) f2 d2) (m_len : mg "len" = none) (m_tuple : mg "tuple" = none) : FnOk P w K mg base CX0 (k + 1) f fd ["_law_state", "_law_row_here"] (spWiped K) := by
  refine F.ok sc_wiped (fun vs H Q E h => ?_) (fun cdv A outer s H vs Q E hr h => ?_)
  · obtain ⟨d, r, B, Wn, us, ws, rfl, _⟩ := h; rfl
  · obtain ⟨d, r, B, Wn, us, ws, rfl, hD, hr0, rd, hws, hwd, hwl, hBl, q⟩ := h
    refine ⟨_, (pss_cons (ps_set (i := 2) sc_wiped.nd rfl (.inl rfl) (pe_ix ix_tup (pe_call C__law_done.g hr (by rfl) C__law_done.m C__law_done.k C__law_done.b .nil pass0 (pa_cons pe_dnewT (pa_cons (pv 1) pa_nil))) pe_int (fun _ _ => rfl)))
      (pss_cons (ps_while PassesOwn.never (pt_cmpR (op_ne_nil hr) (pv 2) (pe_lst pa_nil) (nomark _)) (pss_one (ps_set (i := 1) sc_wiped.nd rfl (.inl rfl) (pe_op op_cat (pv 1) (pe_lst (pa_cons (pe_tup (pa_cons pe_str (pa_cons (pe_bm PySem.F.plainAttrs_list PySem.F.slot_list_pop PySem.F.type_list_pop mt_popAt (pv 2) (pa_cons (pe_call C__law_draw.g hr (by rfl) C__law_draw.m C__law_draw.k C__law_draw.b .nil pass0 (pa_cons (pv 0) (pa_cons (pe_callB call_len_seq (by rfl) m_len PySem.boot_len (pa_cons (pv 2) pa_nil)) pa_nil))) pa_nil)) pa_nil))) pa_nil))))))
      (pss_one (ps_ret (pe_callTy call_tuple_of (by rfl) m_tuple (by decide +kernel) (pa_cons (pv 1) pa_nil)))))), ?_⟩
    refine fun kn nkn => ?_
    obtain ⟨yk, hkn⟩ := nw46 (o := .dT []) nkn
    have D1 := hD.ex yk (by simp)
    have dkn : d ≠ kn := (hD.ne nkn).symm
    refine ⟨.ref r, rfl, kn, r, us, ws, true, [], rfl, hkn, .inr (yk.lst hr0), hws.imp fun _ _ h => h.ex yk, fun W hW => (hwd W hW).kd, by omega, Nat.zero_le _, fun H2 t dl ll dus ls x2 hk2 ht ndl nll dne hdl tdl hll pll => ?_⟩
    have x02 : Ex [] H H2 := Ex.own nkn yk x2
    have D2 := hD.ex x02 (by simp)
    refine ⟨t, _, 1, .ref ll, rfl, rfl, .of ht, at1, ?_⟩
    have dll : d ≠ ll := (D1.ne nll).symm
    have rll : r ≠ ll := fun z => by rw [← z, yk.lst hr0] at nll; cases nll
    have nll0 : H ll = none := yk.f _ nll
    generalize hl : (runL (lform [] (kyN "number" 0)).2 ⟨(lform [] (kyN "number" 0)).1, [], []⟩ ws) = l at pll
    have hkl : ∀ b, runK (fun _ => false) ws b = true → b ∈ leftL l.hv := fun b hb => by
      refine left_in (n0 := (lform [] (kyN "number" 0)).2) ?_
      have e := congrFun (hk_run (n0 := (lform [] (kyN "number" 0)).2) (ws := ws) (l := ⟨(lform [] (kyN "number" 0)).1, [], []⟩)) b
      rw [hl] at e
      exact e.trans hb
    have hkb : ∀ b ∈ leftL l.hv, InB B b := fun b hb => by
      obtain ⟨p, hp⟩ := left_key hb
      rw [← hl] at hp
      exact runL_keys (P := InB B) (fun W hW => (hwd W hW).all _ List.mem_cons_self) (by simp) _ hp
    have hkn : (leftL l.hv).length ≤ B.length := by
      have nd9 := runL_nd (n0 := (lform [] (kyN "number" 0)).2) (ws := ws) (l := ⟨(lform [] (kyN "number" 0)).1, [], []⟩) List.nodup_nil
      rw [hl] at nd9
      have ndL : (leftL l.hv).Nodup := List.Nodup.sublist (List.Sublist.map _ List.filter_sublist) nd9
      have h9 := nd_len0 (leftL l.hv) (B.map Bx.s) ndL fun b hb => by obtain ⟨z, hz, e⟩ := hkb b hb; rw [e]; exact List.mem_map.mpr ⟨z, hz, rfl⟩
      rw [List.length_map] at h9
      exact h9
    have hkn9 : (leftL l.hv).length ≤ ws.length := by
      have h1 := (runL_ok (n0 := (lform [] (kyN "number" 0)).2) (k0 := 1) (d0 := 0) (l := ⟨(lform [] (kyN "number" 0)).1, [], []⟩) ⟨lform_len _ _, Nat.le_refl _, Nat.le_refl _⟩ ws).h
      rw [hl] at h1
      have h2 := left_len l.hv
      omega
    clear hkn9
    generalize leftL l.hv = bs at pll hkl hkb hkn
    refine ⟨fun m σ H3 => ∃ (r3 : Addr) (us3 : List V) (ws3 : List Wo) (ls3 : List V) (bs3 : List Bx), σ = [some (.ref d), some (.ref r3), some (.ref ll)] ∧ H3 ll = some (.lst ls3) ∧ P2 (BxT H3) ls3 bs3 ∧ H3 r3 = some (.lst us3) ∧ r3 ≠ ll ∧ r3 ≠ d ∧ P2 (WoH K H3) us3 ws3 ∧ (∀ W ∈ ws3, WdR B Wn W) ∧ (∀ b, runK (fun _ => false) ws3 b = true → b ∈ bs3) ∧ (∀ b ∈ bs3, InB B b) ∧ ws3.length + bs3.length ≤ ws.length + B.length ∧ bs3.length = m ∧ Ex [d, ll] H2 H3 ∧ St2 H3 d, ⟨_, r, us, ws, ls, bs, rfl, hll, pll, x02.lst hr0, rll, rd, hws.imp fun _ _ h => h.ex x02, hwd, hkl, hkb, by omega, rfl, .refl, D2⟩, ?_⟩
    rintro m σ H3 ⟨r3, us3, ws3, ls3, bs3, rfl, h3, p3, hr3, rl3, rd3, pw3, wd3, k3, b3, le3, lm3, x3, D3⟩
    refine ⟨.ref ll, rfl, Nat.zero_le _, fun N nN => ?_⟩
    obtain ⟨yN, hN⟩ := nw46 (o := .lst []) nN
    have x4 := x3.trans yN.nil
    have h4 := yN.lst h3
    have hr4 := yN.lst hr3
    have D4 := D3.ex yN (by simp)
    have p4 := p3.imp fun _ _ h => BxT.ex h yN
    have pw4 := pw3.imp fun _ _ h => WoH.ex yN h
    generalize upd H3 N (.lst []) = H4 at yN hN x4 h4 hr4 D4 p4 pw4 ⊢
    refine ⟨ll, N, ls3, rfl, rfl, .of h4, .of hN, _, rfl, ?_⟩
    have lls : ls3.length = bs3.length := p4.len
    cases bs3 with
    | nil =>
      have e : ls3 = [] := List.length_eq_zero_iff.mp lls
      rw [e]
      refine iteF ?_
      refine ⟨.ref r3, rfl, r3, us3, rfl, .inl ⟨.of hr4, fun p np => ?_⟩⟩
      obtain ⟨yp, hp⟩ := nw46 (o := .tup us3) np
      refine q _ p us3 ws3 (ex_onto (fun z hz => ?_) x02.nil (x4.trans yp.nil)) (D4.ex yp (by simp)) (.of hp) (pw4.imp fun _ _ h => WoH.ex yp h) wd3 (by simp at le3; omega) fun b => ?_
      · simp only [List.mem_cons, List.not_mem_nil, or_false] at hz
        rcases hz with rfl | rfl
        · exact .inl (by simp)
        · exact .inr nll0
      · cases z : runK (fun _ => false) ws3 b with
        | false => rfl
        | true => have h := k3 b z; cases h
    | cons b0 bs4 =>
      have ne : (!ls3.isEmpty) = true := by cases ls3 with | nil => cases lls | cons _ _ => rfl
      rw [ne]
      refine iteT ⟨fun σ' H' => ∃ m', m' < m ∧ (∃ (r3 : Addr) (us3 : List V) (ws3 : List Wo) (ls3 : List V) (bs3 : List Bx), σ' = [some (.ref d), some (.ref r3), some (.ref ll)] ∧ H' ll = some (.lst ls3) ∧ P2 (BxT H') ls3 bs3 ∧ H' r3 = some (.lst us3) ∧ r3 ≠ ll ∧ r3 ≠ d ∧ P2 (WoH K H') us3 ws3 ∧ (∀ W ∈ ws3, WdR B Wn W) ∧ (∀ b, runK (fun _ => false) ws3 b = true → b ∈ bs3) ∧ (∀ b ∈ bs3, InB B b) ∧ ws3.length + bs3.length ≤ ws.length + B.length ∧ bs3.length = m' ∧ Ex [d, ll] H2 H' ∧ St2 H' d), fun _ _ h => h, ?_⟩
      have lpos : 0 < ls3.length := by rw [lls]; simp
      have lmax : ls3.length ≤ 80 := by omega
      refine ⟨.ref r3, rfl, .ref ll, rfl, .inl ⟨rfl, _, .of h4⟩, .ref d, rfl, .ref ll, rfl, ll, _, rfl, .inl (.of h4), d, _, rfl, D4, by omega, by omega, fun H5 u u0 u1 x5 D5 => ?_⟩
      have hu : u.toNat < ls3.length := by omega
      have h5 := x5.lst h4 (by simpa using dll.symm)
      have hix : ixN ls3.length u = some u.toNat := ixN_of u0 u1
      refine ⟨ll, _, u, u.toNat, _, rfl, rfl, h5, by omega, by omega, (ixN_seq hix).1, List.getElem?_eq_getElem hu, ?_⟩
      obtain ⟨bb, hbb, vbb⟩ := p4.getL (List.getElem?_eq_getElem hu)
      have vbb5 := vbb.ex x5
      have xE : Ex [ll] H5 (upd H5 ll (.lst (ls3.eraseIdx u.toNat))) := .put h5 nt_lst (by simp)
      have hE : (upd H5 ll (.lst (ls3.eraseIdx u.toNat))) ll = some (.lst (ls3.eraseIdx u.toNat)) := upd_same
      have hrE : (upd H5 ll (.lst (ls3.eraseIdx u.toNat))) r3 = some (.lst us3) := xE.lst (x5.lst hr4 (by simpa using rd3)) (by simpa using rl3)
      have DE := D5.ex xE (by simpa using dll)
      have x46 : Ex [d, ll] H4 (upd H5 ll (.lst (ls3.eraseIdx u.toNat))) := (x5.mono (by simp)).trans (xE.mono (by simp))
      have vE := vbb5.ex xE
      generalize upd H5 ll (.lst (ls3.eraseIdx u.toNat)) = H6 at xE hE hrE DE x46 vE ⊢
      have ibb : InB B bb := b3 bb (List.mem_of_getElem? hbb)
      obtain ⟨z, hz, rfl⟩ := ibb
      have ev : ls3[u.toNat] = .str z := vbb
      rw [ev]
      refine ⟨(by show 2 ≤ sizeLine; decide), fun t2 nt2 => ?_⟩
      obtain ⟨y7, h7⟩ := nw46 (o := .tup [V.str (Str.ofString "wipe"), .str z]) nt2
      refine ⟨(by show 1 ≤ sizeLine; decide), fun s2 ns2 => ?_⟩
      obtain ⟨y8, h8⟩ := nw46 (o := .lst [.ref t2]) ns2
      have y78 := y7.trans y8
      have lus : us3.length = ws3.length := pw4.len
      refine ⟨r3, s2, us3, _, rfl, rfl, y78.lst hrE, h8, Nat.le_trans (show us3.length + 1 ≤ 81 by omega) (by decide), fun r9 nr9 => ?_⟩
      obtain ⟨y9, h9⟩ := nw46 (o := .lst (us3 ++ [.ref t2])) nr9
      have y79 := y78.trans y9
      have r9d : r9 ≠ d := (DE.ex y78 (by simp)).ne nr9
      have r9l : r9 ≠ ll := fun e => by rw [e, y78.lst hE] at nr9; cases nr9
      have x49 := x46.trans y79.nil
      have hlt : u.toNat < (b0 :: bs4).length := by rw [← lls]; exact hu
      refine ⟨bs4.length, by rw [← lm3]; simp, r9, us3 ++ [.ref t2], ws3 ++ [.wipe (.s z)], ls3.eraseIdx u.toNat, (b0 :: bs4).eraseIdx u.toNat, rfl, y79.lst hE, ((P2.erase p4 _).imp fun _ _ h => BxT.ex h x49), h9, r9l, r9d, (pw4.imp fun _ _ h => WoH.ex x49 h).app (.cons (show WoH K _ (.ref t2) (.wipe (.s z)) from ⟨t2, _, rfl, .of ((y8.trans y9).tup h7), ⟨_, rfl, rfl⟩⟩) .nil), fun W hW => ?_, fun b hb => ?_, fun b hb => b3 b (List.mem_of_mem_eraseIdx hb), ?_, ?_, x4.trans x49, DE.ex y79 (by simp)⟩
      · rcases List.mem_append.mp hW with m | m
        · exact wd3 W m
        · rw [List.mem_singleton.mp m]; exact ⟨z, hz, rfl⟩
      · rw [runK_snoc] at hb
        have hb : (if b = .s z ∧ false = false then false else runK (fun _ => false) ws3 b) = true := hb
        by_cases e : b = .s z
        · rw [if_pos ⟨e, rfl⟩] at hb; cases hb
        · rw [if_neg fun z => e z.1] at hb
          refine mem_eraseIdx (k3 b hb) fun x hx => ?_
          rw [hbb] at hx
          cases hx
          exact e
      · rw [List.length_append, List.length_singleton, List.length_eraseIdx_of_lt hlt, List.length_cons]
        have : ws3.length + (bs4.length + 1) ≤ ws.length + B.length := le3
        omega
      · rw [List.length_eraseIdx_of_lt hlt, List.length_cons]; omega
end
end K48

set_option maxHeartbeats 8000000
namespace K48
open PySem PySem.Spec PyProof.Rows L2 Kk RZ
abbrev s_wide : Stmt := topS 43
abbrev n_wide : List Str := ["_law_state", "_law_worths", "_law_many", "_law_boxes_here", "_law_kept", "_law_row_here", "_law_k", "_law_box", "_law_word", "_law_some"]
theorem sc_wide : FnScope n_wide ["_law_state", "_law_worths"] (defScope s_wide) := ⟨rfl, rfl, rfl, by decide +kernel, rfl, by decide +kernel, by decide +kernel⟩
theorem map_erase {α β : Type} {f : α → β} : ∀ (l : List α) (j : Nat), (l.map f).eraseIdx j = (l.eraseIdx j).map f
  | [], _ => rfl
  | a :: r, 0 => rfl
  | a :: r, j + 1 => congrArg (f a :: ·) (map_erase r j)
theorem flat_strs : ∀ l : List Str, (l.map V.str).all flatV = true
  | [] => rfl
  | a :: r => by rw [List.map_cons, List.all_cons, flat_strs r]; rfl
theorem inV_str {z : Str} {l : List Str} (h : inV (.str z) (l.map V.str) = true) : z ∈ l := by
  unfold inV at h
  obtain ⟨y, hy, e⟩ := List.any_eq_true.mp h
  obtain ⟨s, hs, rfl⟩ := List.mem_map.mp hy
  first
    | (rw [← eqV_str e]; exact hs)
    | (rw [eqV_str e]; exact hs)
def KIn (L : List Str) (ws : List Wo) : Prop := ∀ b, runK (fun _ => false) ws b = true → InB L b
theorem KIn.nil {L : List Str} : KIn L [] := fun b h => by cases h
theorem KIn.snoc {L L' : List Str} {ws : List Wo} {W : Wo} (h : KIn L ws) (sub : ∀ z ∈ L, z ∈ L' ∨ (Bx.s z = boxW W ∧ isTell W = false)) (hk : kW (runK (fun _ => false) ws) W = true → InB L' (boxW W)) : KIn L' (ws ++ [W]) := fun b hb => by
  rw [runK_snoc] at hb
  have hb : (if b = boxW W ∧ isTell W = false then kW (runK (fun _ => false) ws) W else runK (fun _ => false) ws b) = true := hb
  by_cases e : b = boxW W ∧ isTell W = false
  · rw [if_pos e] at hb
    rw [e.1]; exact hk hb
  · rw [if_neg e] at hb
    obtain ⟨z, hz, rfl⟩ := h b hb
    rcases sub z hz with m | m
    · exact ⟨z, m, rfl⟩
    · exact absurd m e
section
variable {P : Program} {w : World} {K : PySem.W.Frag} {mg : Str → Option Value} {base : Heap}
def spWide (K : PySem.W.Frag) : Sp := fun vs H Q _ => ∃ (d w : Addr) (Wn : List Str), vs = [.ref d, .ref w] ∧ St2 H d ∧ H w = some (.lst (Wn.map V.str)) ∧ 0 < Wn.length ∧ Wn.length ≤ 30 ∧
  ∀ H' p us (ws : List Wo) (B : List Str), B.length ≤ 30 → Ex [d] H H' → St2 H' d → SqT K H' p us → P2 (WoH K H') us ws → (∀ W ∈ ws, WdR B Wn W) → ws.length ≤ 59 → NoK ws → Q (.ref p) H'
theorem ok_wide {f f1 f2 f3 : Addr} {fd d1 d2 d3 : FuncData} {k : Nat} (F : Fun K "_law_wide" "_law_wide" s_wide f fd) (C__law_draw : Cl P w K mg base k "_law_draw" ["_law_state", "_law_many"] spDraw f1 d1) (C__law_boxes : Cl P w K mg base k "_law_boxes" ["_law_state", "_law_many"] spBoxes f2 d2) (C__law_one : Cl P w K mg base k "_law_one" ["_law_state", "_law_row_here"] (spOne K) f3 d3)
    (m_min : mg "min" = none) (m_enumerate : mg "enumerate" = none) (m_list : mg "list" = none) (m_len : mg "len" = none) (m_tuple : mg "tuple" = none) : FnOk P w K mg base CX0 (k + 1) f fd ["_law_state", "_law_worths"] (spWide K) := by
  refine F.ok sc_wide (fun vs H Q E h => ?_) (fun cdv A outer s H vs Q E hr h => ?_)
  · obtain ⟨d, w, Wn, rfl, _⟩ := h; rfl
  · obtain ⟨d, w, Wn, rfl, hD, hw, hW0, hW1, q⟩ := h
    refine ⟨_, (pss_cons (ps_set (i := 2) sc_wide.nd rfl (.inl rfl) (pe_op op_add pe_int (pe_call C__law_draw.g hr (by rfl) C__law_draw.m C__law_draw.k C__law_draw.b .nil pass0 (pa_cons (pv 0) (pa_cons pe_int pa_nil)))))
      (pss_cons (ps_set (i := 3) sc_wide.nd rfl (.inl rfl) (pe_call C__law_boxes.g hr (by rfl) C__law_boxes.m C__law_boxes.k C__law_boxes.b .nil pass0 (pa_cons (pv 0) (pa_cons (pv 2) pa_nil))))
      (pss_cons (ps_set (i := 4) sc_wide.nd rfl (.inl rfl) (pe_slice sl_list (pv 3) po_none (po_some (pe_call C__law_draw.g hr (by rfl) C__law_draw.m C__law_draw.k C__law_draw.b .nil pass0 (pa_cons (pv 0) (pa_cons (pe_callB (call_min2 rfl) (by rfl) m_min (by decide +kernel) (pa_cons pe_int (pa_cons (pe_op op_sub pe_int (pe_op op_mul pe_int (pv 2))) pa_nil))) pa_nil))))))
      (pss_cons (ps_set (i := 5) sc_wide.nd rfl (.inl rfl) (pe_lst pa_nil))
      (pss_cons (ps_for PassesOwn.never rfl (pi_enum (by rfl) m_enumerate (pa_cons (pv 3) pa_nil)) (pg_tup rfl (pgs_cons (pg_name (i := 6) sc_wide.nd rfl (.inl rfl)) (pgs_cons (pg_name (i := 7) sc_wide.nd rfl (.inl rfl)) pgs_nil))) (pss_cons (ps_expr (pe_bm PySem.F.plainAttrs_list PySem.F.slot_list_append PySem.F.type_list_append mt_append (pv 5) (pa_cons (pe_ix ix_list (pe_lst (pa_cons (pe_tup (pa_cons pe_str (pa_cons (pv 7) pa_nil))) (pa_cons (pe_tup (pa_cons pe_str (pa_cons (pv 7) (pa_cons (pe_op op_mul pe_int (pv 6)) pa_nil)))) pa_nil))) (pe_call C__law_draw.g hr (by rfl) C__law_draw.m C__law_draw.k C__law_draw.b .nil pass0 (pa_cons (pv 0) (pa_cons pe_int pa_nil))) (fun _ _ => rfl)) pa_nil)))
      (pss_one (ps_if (pt_cmpR op_in_seq (pv 7) (pv 4) rfl) (pss_one (ps_asg (pe_tup (pa_cons pe_str (pa_cons (pv 7) (pa_cons (pe_call C__law_one.g hr (by rfl) C__law_one.m C__law_one.k C__law_one.b .nil pass0 (pa_cons (pv 0) (pa_cons (pv 1) pa_nil))) pa_nil)))) (pg_sub (pv 5) (pe_un un_neg pe_int) set_list))) pss_nil))))
      (pss_cons (ps_for PassesOwn.never rfl (pi_list (pe_lst (pa_cons pe_str (pa_cons pe_str pa_nil)))) (pg_name (i := 8) sc_wide.nd rfl (.inl rfl)) (pss_cons (ps_set (i := 9) sc_wide.nd rfl (.inl rfl) (pe_callTy call_list_of (by rfl) m_list (by decide +kernel) (pa_cons (pe_dget (hu_of hr) (pe_disp (pps_cons pe_str (pv 3) (pps_cons pe_str (pv 4) pps_nil)) (by rfl) (by rfl) (fun z => by cases z) (by decide)) (pv 8) (fun _ _ => rfl)) pa_nil)))
      (pss_one (ps_while PassesOwn.never (pt_cmpR (op_ne_nil hr) (pv 9) (pe_lst pa_nil) (nomark _)) (pss_one (ps_expr (pe_bm PySem.F.plainAttrs_list PySem.F.slot_list_append PySem.F.type_list_append mt_append (pv 5) (pa_cons (pe_tup (pa_cons (pv 8) (pa_cons (pe_bm PySem.F.plainAttrs_list PySem.F.slot_list_pop PySem.F.type_list_pop mt_popAt (pv 9) (pa_cons (pe_call C__law_draw.g hr (by rfl) C__law_draw.m C__law_draw.k C__law_draw.b .nil pass0 (pa_cons (pv 0) (pa_cons (pe_callB call_len_seq (by rfl) m_len PySem.boot_len (pa_cons (pv 9) pa_nil)) pa_nil))) pa_nil)) pa_nil))) pa_nil))))))))
      (pss_one (ps_ret (pe_callTy call_tuple_of (by rfl) m_tuple (by decide +kernel) (pa_cons (pv 5) pa_nil)))))))))), ?_⟩
    have wd : w ≠ d := fun z => by obtain ⟨_, _, h, _⟩ := hD; rw [z, h] at hw; cases Wn with | nil => cases hW0 | cons a r => cases (List.cons.inj (HO.lst.inj (Option.some.inj hw))).1
    refine ⟨.ref d, rfl, d, 7, rfl, hD, by decide, by decide, fun H1 v v0 v1 x1 D1 => ?_⟩
    refine ⟨12, v, rfl, rfl, ?_⟩
    obtain ⟨vn, rfl⟩ := Int.eq_ofNat_of_zero_le v0
    have mb : 12 ≤ 12 + vn ∧ 12 + vn ≤ 18 := by omega
    refine ⟨.ref d, rfl, .int ((12 + vn : Nat) : Int), rfl, d, 12 + vn, rfl, D1, by omega, by omega, fun H2 bx zs nbx x2 D2 hbx lzs pzs => ?_⟩
    have dbx : d ≠ bx := fun z => by obtain ⟨_, _, h, _⟩ := D1; rw [← z, h] at nbx; cases nbx
    have mi : 0 < (if 41 - 2 * ((12 + vn : Nat) : Int) < 6 then 41 - 2 * ((12 + vn : Nat) : Int) else 6) ∧ (if 41 - 2 * ((12 + vn : Nat) : Int) < 6 then 41 - 2 * ((12 + vn : Nat) : Int) else 6) ≤ 6 := by split <;> omega
    refine ⟨.ref bx, rfl, .ref d, rfl, .int ((12 + vn : Nat) : Int), rfl, 2, ((12 + vn : Nat) : Int), rfl, rfl, .inl ⟨by decide, by decide⟩, 41, 2 * ((12 + vn : Nat) : Int), rfl, rfl, 6, 41 - 2 * ((12 + vn : Nat) : Int), rfl, d, _, rfl, D2, mi.1, by omega, fun H3 u u0 u1 x3 D3 => ?_⟩
    have hbx3 := x3.lst hbx (by simpa using dbx.symm)
    refine ⟨u, rfl, bx, _, rfl, .of hbx3, fun kp nkp => ?_⟩
    have ek : cutV (zs.map V.str) none (some u) = (zs.take u.toNat).map V.str := by
      obtain ⟨un, rfl⟩ := Int.eq_ofNat_of_zero_le u0
      rw [cutTo un, List.map_take]; rfl
    rw [ek]
    have lkp : (zs.take u.toNat).length ≤ 6 := by rw [List.length_take]; omega
    have kps : ∀ z ∈ zs.take u.toNat, z ∈ zs := fun z hz => List.mem_of_mem_take hz
    generalize zs.take u.toNat = kz at lkp kps ⊢
    obtain ⟨y4, hk4⟩ := nw46 (o := .lst (kz.map V.str)) nkp
    have dkp : d ≠ kp := (D3.ne nkp).symm
    have bkp : bx ≠ kp := ne_of_none hbx3 nkp
    have hbx4 := y4.lst hbx3
    have D4 := D3.ex y4 (by simp)
    have x04 : Ex [d] H (upd H3 kp (.lst (kz.map V.str))) := ((x1.trans x2).trans x3).trans y4.nil
    have hw4 := x04.lst hw (by simpa using wd)
    have wkp : w ≠ kp := fun z => by rw [← z, ((x1.trans x2).trans x3).lst hw (by simpa using wd)] at nkp; cases nkp
    generalize upd H3 kp (.lst (kz.map V.str)) = H4 at y4 hk4 hbx4 D4 x04 hw4 ⊢
    refine ⟨Nat.zero_le _, fun R nR => ?_⟩
    obtain ⟨yR, hR⟩ := nw46 (o := .lst []) nR
    have dR : d ≠ R := (D4.ne nR).symm
    have bR : bx ≠ R := ne_of_none hbx4 nR
    have kR : kp ≠ R := ne_of_none hk4 nR
    have wR : w ≠ R := ne_of_none hw4 nR
    have nR0 : H R = none := x04.f _ nR
    have hbx5 := yR.lst hbx4
    have hk5 := yR.lst hk4
    have hw5 := yR.lst hw4
    have D5 := D4.ex yR (by simp)
    have x05 := x04.trans yR.nil
    generalize upd H4 R (.lst []) = H5 at yR hR hbx5 hk5 hw5 D5 x05 ⊢
    refine ⟨.ref bx, rfl, bx, _, rfl, .of hbx5, ?_⟩
    refine for_it (walk_enum (K := K) (a := bx) (xs := zs.map V.str)) (fun i σ H6 => ∃ (y6 y7 : Option V) (us : List V) (ws : List Wo), σ = [some (.ref d), some (.ref w), some (.int ((12 + vn : Nat) : Int)), some (.ref bx), some (.ref kp), some (.ref R), y6, y7, none, none] ∧ H6 R = some (.lst us) ∧ P2 (WoH K H6) us ws ∧ ws.length = i ∧ (∀ W ∈ ws, WdR zs Wn W) ∧ KIn kz ws ∧ Ex [d, R] H5 H6 ∧ St2 H6 d) ?_ ?_ ?_ ?_
    · exact ⟨_, _, [], [], rfl, hR, .nil, rfl, by simp, KIn.nil, .refl, D5⟩
    · rintro i σ H6 _ ⟨_, _, _, _, _, _, _, _, _, _, x6, _⟩
      exact .of (x6.lst hbx5 (by simp [dbx.symm, bR]))
    · rintro i v9 σ H6 H7 hi ⟨y6, y7, us, ws, rfl, h6, p6, l6, w6, k6, x6, D6⟩ ⟨T9, xa, xb, rfl, n9, rfl, hxa, hxb⟩
      obtain rfl : V.int (i : Nat) = xa := Option.some.inj hxa
      have hxb : (zs.map V.str)[i]? = some xb := hxb
      rw [List.getElem?_map] at hxb
      cases hz : zs[i]? with
      | none => rw [hz] at hxb; cases hxb
      | some z =>
      rw [hz] at hxb
      obtain rfl : V.str z = xb := Option.some.inj hxb
      have mz : z ∈ zs := List.mem_of_getElem? hz
      have li : i < 18 := by have := (List.getElem?_eq_some_iff.mp hz).1; omega
      have y9 : Ex [] H6 (upd H6 T9 (.tup [.int (i : Nat), .str z])) := .new n9
      refine ⟨T9, [.int (i : Nat), .str z], rfl, .of upd_same, rfl, _, _, rfl, _, _, rfl, rfl, ?_⟩
      have h7 := y9.lst h6
      have D7 := D6.ex y9 (by simp)
      have p7 := p6.imp fun _ _ h => WoH.ex y9 h
      have x7 := x6.trans y9.nil
      generalize upd H6 T9 (.tup [.int (i : Nat), .str z]) = H7 at h7 D7 p7 x7 ⊢
      refine ⟨.ref R, rfl, .inl ⟨rfl, _, .of h7⟩, .str z, rfl, (by show 2 ≤ sizeLine; decide), fun t1 n1 => ?_⟩
      obtain ⟨z1, g1⟩ := nw46 (o := .tup [V.str (Str.ofString "ask"), .str z]) n1
      refine ⟨.str z, rfl, .int (i : Nat), rfl, 500, _, rfl, rfl, .inl ⟨by decide, by decide⟩, (by show 3 ≤ sizeLine; decide), fun t2 n2 => ?_⟩
      obtain ⟨z2, g2⟩ := nw46 (o := .tup [V.str (Str.ofString "number"), .str z, .int (500 * (i : Nat))]) n2
      refine ⟨(by show 2 ≤ sizeLine; decide), fun l3 n3 => ?_⟩
      obtain ⟨z3, g3⟩ := nw46 (o := .lst [.ref t1, .ref t2]) n3
      have x8 := ((z1.trans z2).trans z3)
      have D8 := D7.ex x8 (by simp)
      have dl3 : d ≠ l3 := fun e => by obtain ⟨_, _, h, _⟩ := (D7.ex (z1.trans z2) (by simp)); rw [← e, h] at n3; cases n3
      refine ⟨.ref d, rfl, d, 2, rfl, D8, by decide, by decide, fun H9 u u0 u1 x9 D9 => ?_⟩
      have g39 := x9.lst g3 (by simpa using dl3.symm)
      have x79 : Ex [d] H7 H9 := x8.nil.trans x9
      have h9 := x79.lst h7 (by simpa using dR.symm)
      have p9 := p7.imp fun _ _ h => WoH.ex x79 h
      obtain ⟨W, tw, et, hW, wdW, kw⟩ : ∃ (W : Wo) (tw : Addr), atI [V.ref t1, .ref t2] u = some (.ref tw) ∧ WoH K H9 (.ref tw) W ∧ WdR zs Wn W ∧ boxW W = .s z ∧ isTell W = false ∧ kW (runK (fun _ => false) ws) W = false := by
        obtain ⟨x, e1, e2⟩ := atZ (xs := [V.ref t1, .ref t2]) u0 u1
        have e3 := List.mem_of_getElem? e2
        simp only [List.mem_cons, List.not_mem_nil, or_false] at e3
        rcases e3 with rfl | rfl
        · exact ⟨.ask (.s z), t1, e1, ⟨t1, _, rfl, .of (x9.tup (z3.tup (z2.tup g1))), ⟨_, rfl, rfl⟩⟩, ⟨z, mz, rfl⟩, rfl, rfl, rfl⟩
        · exact ⟨.number (.s z) (500 * (i : Nat)), t2, e1, ⟨t2, _, rfl, .of (x9.tup (z3.tup g2)), ⟨_, rfl, rfl⟩⟩, ⟨⟨z, mz, rfl⟩, by omega, by omega⟩, rfl, rfl, rfl⟩
      refine ⟨l3, _, u, .ref tw, rfl, rfl, .of g39, et, R, us, .ref tw, rfl, rfl, h9, by rw [p6.len, l6]; exact Nat.lt_of_lt_of_le (show i < 19 by omega) (by decide), ?_⟩
      have xp : Ex [R] H9 (upd H9 R (.lst (us ++ [.ref tw]))) := .put h9 nt_lst (by simp)
      have h10 : (upd H9 R (.lst (us ++ [.ref tw]))) R = some (.lst (us ++ [.ref tw])) := upd_same
      have D10 := D9.ex xp (by simpa using dR)
      have p10 : P2 (WoH K (upd H9 R (.lst (us ++ [.ref tw])))) (us ++ [.ref tw]) (ws ++ [W]) := (p9.app (.cons hW .nil)).imp fun _ _ h => WoH.ex xp h
      have p9' : P2 (WoH K (upd H9 R (.lst (us ++ [.ref tw])))) us ws := p9.imp fun _ _ h => WoH.ex xp h
      have x10 : Ex [d, R] H5 (upd H9 R (.lst (us ++ [.ref tw]))) := (x7.trans (x79.mono (by simp))).trans (xp.mono (by simp))
      generalize upd H9 R (.lst (us ++ [.ref tw])) = H10 at h10 D10 p10 p9' x10 ⊢
      have hk10 : H10 kp = some (.lst (kz.map V.str)) := x10.lst hk5 (by simp [dkp.symm, kR])
      have hw10 : H10 w = some (.lst (Wn.map V.str)) := x10.lst hw5 (by simp [wd, wR])
      refine ⟨.str z, rfl, .ref kp, rfl, kp, _, rfl, .inl (.of hk10), rfl, flat_strs kz, _, rfl, ite2 (fun e => ?_) (fun e => ?_)⟩
      · have ez : z ∈ kz := inV_str e
        refine ⟨.str z, rfl, .ref d, rfl, .ref w, rfl, d, w, Wn.map V.str, rfl, D10, wd, .of hw10, by rw [List.length_map]; exact hW0, by rw [List.length_map]; omega, fun H11 iw xw hxw x11 D11 => ?_⟩
        obtain ⟨sw, hsw, rfl⟩ := List.mem_map.mp (List.mem_of_getElem? hxw)
        refine ⟨(by show 3 ≤ sizeLine; decide), fun t4 n4 => ?_⟩
        obtain ⟨z4, g4⟩ := nw46 (o := .tup [V.str (Str.ofString "take"), .str z, .str sw]) n4
        have x12 : Ex [d] H10 (upd H11 t4 (.tup [V.str (Str.ofString "take"), .str z, .str sw])) := x11.trans z4.nil
        have h12 := x12.lst h10 (by simpa using dR.symm)
        have lus : us.length = ws.length := p6.len
        refine ⟨.ref R, rfl, 1, rfl, R, _, -1, us.length, rfl, rfl, h12, ?_, ?_⟩
        · unfold ixN
          rw [if_neg (by decide), if_pos (by rw [List.length_append, List.length_singleton]; omega), List.length_append, List.length_singleton]
          congr 1
          omega
        have es : (us ++ [V.ref tw]).set us.length (.ref t4) = us ++ [.ref t4] := by
          rw [List.set_append_right _ _ (Nat.le_refl _), Nat.sub_self]; rfl
        rw [es]
        have xq : Ex [R] (upd H11 t4 (.tup [V.str (Str.ofString "take"), .str z, .str sw])) (upd (upd H11 t4 (.tup [V.str (Str.ofString "take"), .str z, .str sw])) R (.lst (us ++ [.ref t4]))) := .put h12 nt_lst (by simp)
        refine ⟨_, _, _, ws ++ [.take (.s z) sw], rfl, upd_same, ?_, by rw [List.length_append, l6]; rfl, fun V hV => ?_, k6.snoc (fun y hy => .inl hy) (fun _ => ⟨z, ez, rfl⟩), (x10.trans (x12.mono (by simp))).trans (xq.mono (by simp)), (D11.ex z4 (by simp)).ex xq (by simpa using dR)⟩
        · exact ((p9'.imp fun _ _ h => WoH.ex x12 h).app (.cons (show WoH K _ (.ref t4) (.take (.s z) sw) from ⟨t4, _, rfl, .of g4, ⟨_, rfl, rfl⟩⟩) .nil)).imp fun _ _ h => WoH.ex xq h
        · rcases List.mem_append.mp hV with m | m
          · exact w6 V m
          · rw [List.mem_singleton.mp m]; exact ⟨⟨z, mz, rfl⟩, hsw⟩
      · refine ⟨_, _, _, ws ++ [W], rfl, h10, p10, by rw [List.length_append, l6]; rfl, fun V hV => ?_, k6.snoc (fun y hy => .inl hy) (fun h => by rw [kw.2.2] at h; cases h), x10, D10⟩
        rcases List.mem_append.mp hV with m | m
        · exact w6 V m
        · rw [List.mem_singleton.mp m]; exact wdW
    rintro σ H6 ⟨y6, y7, us, ws, rfl, h6, p6, l6, w6, k6, x6, D6⟩
    rw [List.length_map, lzs] at l6
    have hbx6 : H6 bx = some (.lst (zs.map V.str)) := x6.lst hbx5 (by simp [dbx.symm, bR])
    have hk6 : H6 kp = some (.lst (kz.map V.str)) := x6.lst hk5 (by simp [dkp.symm, kR])
    refine ⟨(by show 2 ≤ sizeLine; decide), fun M nM => ?_⟩
    obtain ⟨yM, hM⟩ := nw46 (o := .lst [V.str (Str.ofString "tell"), V.str (Str.ofString "wipe")]) nM
    have dM : d ≠ M := (D6.ne nM).symm
    have RM : R ≠ M := ne_of_none h6 nM
    have bM : bx ≠ M := ne_of_none hbx6 nM
    have kM : kp ≠ M := ne_of_none hk6 nM
    have h7 := yM.lst h6
    have hbx7 := yM.lst hbx6
    have hk7 := yM.lst hk6
    have D7 := D6.ex yM (by simp)
    have p7 := p6.imp fun _ _ h => WoH.ex yM h
    have x57 := x6.trans yM.nil
    generalize upd H6 M (.lst [V.str (Str.ofString "tell"), V.str (Str.ofString "wipe")]) = H7 at yM hM h7 hbx7 hk7 D7 p7 x57 ⊢
    refine ⟨M, rfl, ⟨_, .of hM⟩, ?_⟩
    refine for_it (walk_list (K := K) (a := M) (xs := [V.str (Str.ofString "tell"), V.str (Str.ofString "wipe")])) (fun i σ H8 => ∃ (y6 y7 y8 y9 : Option V) (us : List V) (ws : List Wo), σ = [some (.ref d), some (.ref w), some (.int ((12 + vn : Nat) : Int)), some (.ref bx), some (.ref kp), some (.ref R), y6, y7, y8, y9] ∧ H8 R = some (.lst us) ∧ P2 (WoH K H8) us ws ∧ ws.length ≤ 18 + 18 * i ∧ (∀ W ∈ ws, WdR zs Wn W) ∧ (i < 2 → KIn kz ws) ∧ (i = 2 → KIn [] ws) ∧ Ex [d, R] H7 H8 ∧ St2 H8 d) ?_ ?_ ?_ ?_
    · exact ⟨_, _, _, _, us, ws, rfl, h7, p7, by omega, w6, fun _ => k6, (fun e => by cases e), .refl, D7⟩
    · rintro i σ H8 _ ⟨_, _, _, _, _, _, _, _, _, _, _, _, _, x8, _⟩
      exact .of (x8.lst hM (by simp [dM.symm, RM.symm]))
    · rintro i xw σ H0 H8 hi ⟨y6, y7, y8, y9, us, ws, rfl, h8, p8, l8, w8, k8, _, x8, D8⟩ ⟨rfl, hxw⟩
      have hi : i < 2 := hi
      have hbx8 : H8 bx = some (.lst (zs.map V.str)) := x8.lst hbx7 (by simp [dbx.symm, bR])
      have hk8 : H8 kp = some (.lst (kz.map V.str)) := x8.lst hk7 (by simp [dkp.symm, kR])
      obtain ⟨wz, sz, sl, mk, rfl, hget, hsl, lsz, ssz, hmk, hbw⟩ : ∃ (wz : Str) (sz : List Str) (sl : Addr) (mk : Str → Wo), xw = .str wz ∧ valV (mergeK [] [((.inr (Str.ofString "tell") : L2.Key), V.ref bx), (.inr (Str.ofString "wipe"), V.ref kp)]) (.inr wz) = some (.ref sl) ∧ H8 sl = some (.lst (sz.map V.str)) ∧ sz.length ≤ 18 ∧ (∀ z ∈ sz, z ∈ zs) ∧ (∀ z, boxW (mk z) = .s z ∧ (∀ (H : Hp), WoX H (mk z) [.str wz, .str z]) ∧ (∀ f, kW f (mk z) = false) ∧ WdR zs Wn (mk z) = InB zs (.s z)) ∧ ((i = 0 ∧ ∀ z, isTell (mk z) = true) ∨ (i = 1 ∧ sz = kz ∧ ∀ z, isTell (mk z) = false)) := by
        match i, hi, hxw with
        | 0, _, hxw =>
          obtain rfl := Option.some.inj hxw
          exact ⟨_, zs, bx, fun z => .tell (.s z), rfl, by kernel_rfl, hbx8, by omega, fun z hz => hz, fun z => ⟨rfl, fun H => ⟨_, rfl, rfl⟩, fun f => rfl, rfl⟩, .inl ⟨rfl, fun _ => rfl⟩⟩
        | 1, _, hxw =>
          obtain rfl := Option.some.inj hxw
          exact ⟨_, kz, kp, fun z => .wipe (.s z), rfl, by kernel_rfl, hk8, by omega, kps, fun z => ⟨rfl, fun H => ⟨_, rfl, rfl⟩, fun f => rfl, rfl⟩, .inr ⟨rfl, rfl, fun _ => rfl⟩⟩
      refine fun p np => ⟨.ref bx, rfl, .ref kp, rfl, upd_same, [((.inr (Str.ofString "tell") : L2.Key), V.ref bx), (.inr (Str.ofString "wipe"), V.ref kp)], rfl, (by show 2 ≤ 15; decide), ?_⟩
      have yp : Ex [] H8 (upd (upd H8 p (.dK [])) p (.dK (mergeK [] [((.inr (Str.ofString "tell") : L2.Key), V.ref bx), (.inr (Str.ofString "wipe"), V.ref kp)]))) := Ex.own np (.new np) (.put upd_same (fun _ z => by cases z) (by simp))
      have gp : (upd (upd H8 p (.dK [])) p (.dK (mergeK [] [((.inr (Str.ofString "tell") : L2.Key), V.ref bx), (.inr (Str.ofString "wipe"), V.ref kp)]))) p = some (.dK (mergeK [] [((.inr (Str.ofString "tell") : L2.Key), V.ref bx), (.inr (Str.ofString "wipe"), V.ref kp)])) := upd_same
      generalize upd (upd H8 p (.dK [])) p (.dK (mergeK [] [((.inr (Str.ofString "tell") : L2.Key), V.ref bx), (.inr (Str.ofString "wipe"), V.ref kp)])) = H9 at yp gp ⊢
      have dg := DGet.k (k := .inr wz) gp
      rw [hget] at dg
      refine ⟨.str wz, rfl, p, _, rfl, dg, ?_⟩
      have hsl9 := yp.lst hsl
      refine ⟨sl, _, rfl, .inl (.of hsl9), fun S nS => ?_⟩
      obtain ⟨yS, hS⟩ := nw46 (o := .lst (sz.map V.str)) nS
      have x810 := yp.trans yS
      have h10 := x810.lst h8
      have D10 := D8.ex x810 (by simp)
      have p10 := p8.imp fun _ _ h => WoH.ex x810 h
      have dS : d ≠ S := ((D8.ex yp (by simp)).ne nS).symm
      have RS : R ≠ S := ne_of_none (yp.lst h8) nS
      have nS8 : H8 S = none := yp.f _ nS
      have x710 := x8.trans x810.nil
      generalize upd H9 S (.lst (sz.map V.str)) = H10 at yS hS x810 h10 D10 p10 x710 ⊢
      refine ⟨fun m σ H11 => ∃ (us3 : List V) (ws3 : List Wo) (ls3 : List Str), σ = [some (.ref d), some (.ref w), some (.int ((12 + vn : Nat) : Int)), some (.ref bx), some (.ref kp), some (.ref R), y6, y7, some (.str wz), some (.ref S)] ∧ H11 S = some (.lst (ls3.map V.str)) ∧ H11 R = some (.lst us3) ∧ P2 (WoH K H11) us3 ws3 ∧ (∀ W ∈ ws3, WdR zs Wn W) ∧ (i = 0 → KIn kz ws3) ∧ (i = 1 → KIn ls3 ws3) ∧ (∀ z ∈ ls3, z ∈ zs) ∧ ws3.length + ls3.length ≤ 18 + 18 * (i + 1) ∧ ls3.length = m ∧ Ex [d, R, S] H10 H11 ∧ St2 H11 d, ⟨_, us, ws, sz, rfl, hS, h10, p10, w8, (fun _ => k8 hi), (fun e => by rcases hbw with ⟨e0, _⟩ | ⟨_, e1, _⟩; (omega); (rw [e1]; exact k8 hi)), ssz, by omega, rfl, .refl, D10⟩, ?_⟩
      rintro m σ H11 ⟨us3, ws3, ls3, rfl, hS3, hR3, pw3, wd3, ka, kb, s3, le3, lm3, x11, D11⟩
      refine ⟨.ref S, rfl, Nat.zero_le _, fun N nN => ?_⟩
      obtain ⟨yN, hN⟩ := nw46 (o := .lst []) nN
      have hS4 := yN.lst hS3
      have hR4 := yN.lst hR3
      have D4' := D11.ex yN (by simp)
      have pw4 := pw3.imp fun _ _ h => WoH.ex yN h
      have x12 := x11.trans yN.nil
      generalize upd H11 N (.lst []) = H12 at yN hN hS4 hR4 D4' pw4 x12 ⊢
      refine ⟨S, N, ls3.map V.str, rfl, rfl, .of hS4, .of hN, _, rfl, ?_⟩
      cases ls3 with
      | nil =>
        refine iteF ?_
        refine ⟨_, _, _, _, us3, ws3, rfl, hR4, pw4, by simp at le3; omega, wd3, (fun e => ka (by omega)), (fun e => kb (by omega)), ex_onto (fun z hz => ?_) (x710.mono (fun z hz => by simpa using hz)) x12, D4'⟩
        simp only [List.mem_cons, List.not_mem_nil, or_false] at hz
        rcases hz with rfl | rfl | rfl
        · exact .inl (by simp)
        · exact .inl (by simp)
        · exact .inr (x8.f _ nS8)
      | cons z0 ls4 =>
        refine iteT ⟨fun σ' H' => ∃ m', m' < m ∧ (∃ (us3 : List V) (ws3 : List Wo) (ls3 : List Str), σ' = [some (.ref d), some (.ref w), some (.int ((12 + vn : Nat) : Int)), some (.ref bx), some (.ref kp), some (.ref R), y6, y7, some (.str wz), some (.ref S)] ∧ H' S = some (.lst (ls3.map V.str)) ∧ H' R = some (.lst us3) ∧ P2 (WoH K H') us3 ws3 ∧ (∀ W ∈ ws3, WdR zs Wn W) ∧ (i = 0 → KIn kz ws3) ∧ (i = 1 → KIn ls3 ws3) ∧ (∀ z ∈ ls3, z ∈ zs) ∧ ws3.length + ls3.length ≤ 18 + 18 * (i + 1) ∧ ls3.length = m' ∧ Ex [d, R, S] H10 H' ∧ St2 H' d), fun _ _ h => h, ?_⟩
        have lpos : 0 < ((z0 :: ls4).map V.str).length := by simp
        have lmax : ((z0 :: ls4).map V.str).length ≤ 60 := by rw [List.length_map]; omega
        refine ⟨.ref R, rfl, .inl ⟨rfl, _, .of hR4⟩, .str wz, rfl, .ref S, rfl, .inl ⟨rfl, _, .of hS4⟩, .ref d, rfl, .ref S, rfl, S, _, rfl, .inl (.of hS4), d, _, rfl, D4', by omega, by omega, fun H13 u u0 u1 x13 D13 => ?_⟩
        have hu : u.toNat < ((z0 :: ls4).map V.str).length := by omega
        have hS5 := x13.lst hS4 (by simpa using dS.symm)
        have hix : ixN ((z0 :: ls4).map V.str).length u = some u.toNat := ixN_of u0 u1
        obtain ⟨zz, ezz⟩ : ∃ zz, (z0 :: ls4)[u.toNat]? = some zz := ⟨_, List.getElem?_eq_getElem (by rw [List.length_map] at hu; exact hu)⟩
        have mzz : zz ∈ z0 :: ls4 := List.mem_of_getElem? ezz
        refine ⟨S, _, u, u.toNat, .str zz, rfl, rfl, hS5, by omega, by omega, (ixN_seq hix).1, by rw [List.getElem?_map, ezz]; rfl, ?_⟩
        have ee : ((z0 :: ls4).map V.str).eraseIdx u.toNat = ((z0 :: ls4).eraseIdx u.toNat).map V.str := map_erase _ _
        rw [ee]
        have xE : Ex [S] H13 (upd H13 S (.lst (((z0 :: ls4).eraseIdx u.toNat).map V.str))) := .put hS5 nt_lst (by simp)
        have hSE : (upd H13 S (.lst (((z0 :: ls4).eraseIdx u.toNat).map V.str))) S = some (.lst (((z0 :: ls4).eraseIdx u.toNat).map V.str)) := upd_same
        have hRE := xE.lst (x13.lst hR4 (by simpa using dR.symm)) (by simpa using RS)
        have DE := D13.ex xE (by simpa using dS)
        have x14 : Ex [d, R, S] H12 (upd H13 S (.lst (((z0 :: ls4).eraseIdx u.toNat).map V.str))) := (x13.mono (by simp)).trans (xE.mono (by simp))
        generalize upd H13 S (.lst (((z0 :: ls4).eraseIdx u.toNat).map V.str)) = H14 at xE hSE hRE DE x14 ⊢
        refine ⟨(by show 2 ≤ sizeLine; decide), fun t5 n5 => ?_⟩
        obtain ⟨z5, g5⟩ := nw46 (o := .tup [V.str wz, .str zz]) n5
        have hR6 := z5.lst hRE
        have lus : us3.length = ws3.length := pw3.len
        refine ⟨R, us3, _, rfl, rfl, hR6, by rw [lus]; exact Nat.lt_of_le_of_lt (show ws3.length ≤ 60 by omega) (by decide), ?_⟩
        have xq : Ex [R] (upd H14 t5 (.tup [V.str wz, .str zz])) (upd (upd H14 t5 (.tup [V.str wz, .str zz])) R (.lst (us3 ++ [.ref t5]))) := .put hR6 nt_lst (by simp)
        have x16 : Ex [d, R, S] H12 (upd (upd H14 t5 (.tup [V.str wz, .str zz])) R (.lst (us3 ++ [.ref t5]))) := (x14.trans z5.nil).trans (xq.mono (by simp))
        have hlt : u.toNat < (z0 :: ls4).length := by rw [List.length_map] at hu; exact hu
        obtain ⟨hb1, hb2, hb3, hb4⟩ := hmk zz
        refine ⟨ls4.length, by rw [← lm3]; simp, us3 ++ [.ref t5], ws3 ++ [mk zz], (z0 :: ls4).eraseIdx u.toNat, rfl, xq.lst (z5.lst hSE) (by simpa using RS.symm), upd_same, (pw4.imp fun _ _ h => WoH.ex x16 h).app (.cons (show WoH K _ (.ref t5) (mk zz) from ⟨t5, _, rfl, .of (xq.tup g5), hb2 _⟩) .nil), fun W hW => ?_, fun e => ?_, fun e => ?_, fun z hz => s3 z (List.mem_of_mem_eraseIdx hz), ?_, ?_, x12.trans x16, (DE.ex z5 (by simp)).ex xq (by simpa using dR)⟩
        · rcases List.mem_append.mp hW with m | m
          · exact wd3 W m
          · rw [List.mem_singleton.mp m, hb4]; exact ⟨zz, s3 zz mzz, rfl⟩
        · exact (ka e).snoc (fun y hy => .inl hy) (fun h => by rw [hb3] at h; cases h)
        · refine (kb e).snoc (fun y hy => ?_) (fun h => by rw [hb3] at h; cases h)
          by_cases ey : y = zz
          · refine .inr ⟨by rw [ey, hb1], ?_⟩
            rcases hbw with ⟨e0, _⟩ | ⟨_, _, et⟩
            · omega
            · exact et zz
          · refine .inl (mem_eraseIdx hy fun x hx => ?_)
            rw [ezz] at hx
            cases hx
            exact ey
        · rw [List.length_append, List.length_singleton, List.length_eraseIdx_of_lt hlt, List.length_cons]
          have : ws3.length + (ls4.length + 1) ≤ 18 + 18 * (i + 1) := le3
          omega
        · rw [List.length_eraseIdx_of_lt hlt, List.length_cons]; omega
    · rintro σ H8 ⟨y6, y7, y8, y9, us, ws, rfl, h8, p8, l8, w8, _, k8, x8, D8⟩
      refine ⟨.ref R, rfl, R, us, rfl, .inl ⟨.of h8, fun p np => ?_⟩⟩
      obtain ⟨yp, hp⟩ := nw46 (o := .tup us) np
      refine q _ p us ws zs (by omega) (ex_onto (fun z hz => ?_) x05 ((x57.trans x8).trans yp.nil)) (D8.ex yp (by simp)) (.of hp) (p8.imp fun _ _ h => WoH.ex yp h) w8 (Nat.le_trans l8 (by decide)) fun b => ?_
      · simp only [List.mem_cons, List.not_mem_nil, or_false] at hz
        rcases hz with rfl | rfl
        · exact .inl (by simp)
        · exact .inr nR0
      · cases z : runK (fun _ => false) ws b with
        | false => rfl
        | true => obtain ⟨y, hy, _⟩ := k8 rfl b z; cases hy
end
end K48

namespace Kk
open PySem PySem.Spec PyProof.Rows L2 RZ
/-! zip of a tuple and a list -/
def ItzM (K : PySem.W.Frag) (a b : Addr) : It :=
  ⟨fun i H => ∃ (xs ys : List V) (x y : V), SqT K H a xs ∧ SqL K H b ys ∧ xs[i]? = some x ∧ ys[i]? = some y,
    fun i H v H' => ∃ T x y, v = .ref T ∧ H T = none ∧ H' = upd H T (.tup [x, y]) ∧ (∀ xs, SqT K H a xs → xs[i]? = some x) ∧ ∀ ys, SqL K H b ys → ys[i]? = some y,
    fun i H => ∃ xs ys : List V, SqT K H a xs ∧ SqL K H b ys ∧ i ≤ xs.length ∧ i ≤ ys.length ∧ (i = xs.length ∨ i = ys.length)⟩
theorem turn_zipM {P : Program} {w : World} {K : PySem.W.Frag} {elts : List Expr} {kk : Nat} {tpos : Pos} {a b z TI TO i1 i2 : Addr} (D : ZipSep2 z TI TO i1 i2 [i1, a] [i2, b]) (hne1 : a ≠ i1) (hne : b ≠ i2) :
    Turn P w K (.Tuple elts kk tpos) (ItzM K a b) [z, TI, TO, i1, i2] z (fun i h => IsZip h z TI TO .none ∧ IsTupOf2 h TI (.ref i1) (.ref i2) ∧ (∃ x y, IsTupOf2 h TO x y) ∧ h.IsTupleIter i1 a i ∧ h.IsListIter i2 b i) where
  mem := by simp
  obj := fun i h st c hc => by
    obtain ⟨hz, hTI, ⟨x, y, hTO⟩, ⟨o1, e1, _, d1⟩, ⟨o2, e2, _, d2⟩⟩ := st
    have e' : c = z ∨ c = TI ∨ c = TO ∨ c = i1 ∨ c = i2 := by simpa using hc
    rcases e' with q | q | q | q | q
    · rw [q]; exact ⟨_, hz, fun v q => nomatch q⟩
    · rw [q]; exact ⟨_, hTI, fun v q => nomatch q⟩
    · rw [q]; exact ⟨_, hTO, fun v q => nomatch q⟩
    · rw [q]; exact ⟨o1, e1, fun v q => by rw [d1] at q; cases q⟩
    · rw [q]; exact ⟨o2, e2, fun v q => by rw [d2] at q; cases q⟩
  keep := fun i h h' st k => by
    obtain ⟨hz, hTI, ⟨x, y, hTO⟩, h1, h2⟩ := st
    exact ⟨k z (by simp) _ hz, k TI (by simp) _ hTI, ⟨x, y, k TO (by simp) _ hTO⟩, h1.at fun o q => k i1 (by simp) o q, h2.at fun o q => k i2 (by simp) o q⟩
  item := by
    intro X hP hw hK hc i pins s σ H E I hf st hg
    subst hP hw hK
    obtain ⟨hz, hTI, ⟨x0, y0, hTO⟩, h1, h2⟩ := st
    obtain ⟨xs, ys, x, y, hqx, hqy, hx, hy⟩ := hg
    obtain ⟨its, rv, p1, _⟩ := I.tuple hqx
    obtain ⟨its2, rv2, p2, _⟩ := I.list hqy
    obtain ⟨u1, hu1, ru1⟩ := rv.get hx
    obtain ⟨u2, hu2, ru2⟩ := rv2.get hy
    have hzl : z < s.heap.objs.size := Heap.lt_size hz
    have hh : X.A.in1.handled = none := I.ok.hd hc
    have lt1 : i < its.toArray.size := by
      have := (List.getElem?_eq_some_iff.mp hu1).1
      simpa using this
    have lt2 : i < its2.toArray.size := by
      have := (List.getElem?_eq_some_iff.mp hu2).1
      simpa using this
    refine wpAny_pyNext_zipD2_item D (Draws.tuple hh i1 a hne1 its.toArray) (Draws.list hh i2 b hne its2.toArray) hz hTI hTO ⟨h1, p1⟩ ⟨h2, p2.isList⟩ lt1 lt2 fun x1 x2 h' tk y1 y2 z' TO' h1' h2' hT hsz hk => ?_
    have y1 : its.toArray[i]? = some x1 := y1
    have y2 : its2.toArray[i]? = some x2 := y2
    have e1 : x1 = u1 := by
      have : its.toArray[i]? = some u1 := by simpa using hu1
      rw [this] at y1
      exact (Option.some.inj y1).symm
    have e2 : x2 = u2 := by
      have : its2.toArray[i]? = some u2 := by simpa using hu2
      rw [this] at y2
      exact (Option.some.inj y2).symm
    subst e1 e2
    refine ⟨_, rfl, wpAny_letOwnedTupleGo_zip (s := { s with heap := h', toks := tk }) z' fun h'' z'' sb => ?_⟩
    have hT2 : h''.get? s.heap.objs.size = some { cls := .type "tuple", data := .seq #[x1, x2] } := (sb.2 _ (Nat.ne_of_gt hzl)).trans hT
    have new : ObjOk X.prog X.w (upd H s.heap.objs.size (.tup [x, y])) h'' s.heap.objs.size (.tup [x, y]) :=
      ⟨by show 2 ≤ sizeLine; decide, [x1, x2], .cons ru1 (.cons ru2 .nil), ⟨_, hT2, rfl, _, rfl⟩⟩
    have I1 : Inv X pins σ (upd H s.heap.objs.size (.tup [x, y])) { s with heap := h'', toks := tk } :=
      I.turnedNew (t' := tk) (ch := [z, TI, TO, i1, i2]) (fun c o hb q => (sb.2 c (fun q' => hb (by simp [q']))).trans (hk c o (fun q' => hb (by simp [q'])) (fun q' => hb (by simp [q'])) (fun q' => hb (by simp [q'])) (fun q' => hb (by simp [q'])) q)) hf (Nat.le_refl _) new
    refine ⟨.ref s.heap.objs.size, _, I1, rfl, ⟨_, x, y, rfl, I.hok.fresh (Nat.le_refl _), rfl, fun l hl => by rw [I.tuple_inj hl hqx]; exact hx, fun l hl => by rw [I.list_inj hl hqy]; exact hy⟩, ⟨z'', ?_, ⟨x1, x2, ?_⟩, ?_, ?_⟩, fun c hcm => ?_⟩
    · exact (sb.2 _ D.TIz).trans (hk _ _ D.TIz D.TITO D.TIi1 D.TIi2 hTI)
    · exact (sb.2 _ D.TOz).trans TO'
    · exact h1'.1.at fun o q => (sb.2 _ D.zi1.symm).trans q
    · exact h2'.1.at fun o q => (sb.2 _ D.zi2.symm).trans q
    · have hlt : c < s.heap.objs.size := by
        have e' : c = z ∨ c = TI ∨ c = TO ∨ c = i1 ∨ c = i2 := by simpa using hcm
        rcases e' with q | q | q | q | q
        · rw [q]; exact hzl
        · rw [q]; exact Heap.lt_size hTI
        · rw [q]; exact Heap.lt_size hTO
        · rw [q]; obtain ⟨_, e1, _⟩ := h1; exact Heap.lt_size e1
        · rw [q]; obtain ⟨_, e2, _⟩ := h2; exact Heap.lt_size e2
      rw [upd_ne (Nat.ne_of_lt hlt)]
      exact (hf c hcm).1
  done := by
    intro X hP hw hK hc i pins s σ H E I hf st hg
    subst hP hw hK
    obtain ⟨hz, hTI, ⟨x0, y0, hTO⟩, h1, h2⟩ := st
    obtain ⟨xs, ys, hqx, hqy, le1, le2, hend⟩ := hg
    obtain ⟨its, rv, p1, _⟩ := I.tuple hqx
    obtain ⟨its2, rv2, p2, _⟩ := I.list hqy
    have l1 : xs.length = its.toArray.size := by simpa using rv.length
    have l2 : ys.length = its2.toArray.size := by simpa using rv2.length
    have hh : X.A.in1.handled = none := I.ok.hd hc
    exact wpAny_pyNext_zipD2_end D (Draws.tuple hh i1 a hne1 its.toArray) (Draws.list hh i2 b hne its2.toArray) hz hTI hTO ⟨h1, p1⟩ ⟨h2, p2.isList⟩ (by omega) (by omega) (by omega) fun h' tk hk => ⟨rfl, I.turnedL (t' := tk) (ch := [z, TI, TO, i1, i2]) (fun c o hb q =>
      hk c o (fun q' => hb (by simp [q'])) (fun q' => hb (by simp [q'])) (fun q' => hb (by simp [q'])) (fun q' => hb (by simp [q'])) q) hf⟩
  self := fun A i s Q E st h => wpAny_pyIter_zip st.1 h
def iZipM (K : PySem.W.Frag) (ta : TA) : TI := fun σ H R => ta σ H fun vs H1 => ∃ a b xs ys, vs = [.ref a, .ref b] ∧ SqT K H1 a xs ∧ SqL K H1 b ys ∧ R (ItzM K a b) H1
theorem pi_zipM {X : Cx} {e e2 : Expr} {ta : TA} {p pos tpos : Pos} {elts : List Expr} {kk : Nat} (hg : Gl X "zip") (hm : X.mg "zip" = none) (ha : PA X [e, e2] ta)
    (hs : starEach [e, e2] X.env = (false, eval e X.env) :: starEach [e2] X.env := by rfl) (hpl : (backTo pos (starEach [e2] X.env)).any (·.1) = false := by rfl) :
    PI X (.Tuple elts kk tpos) (.Call (.Name "zip" p) [e, e2] [] pos) (iZipM X.K ta) := by
  refine ⟨fun pins s σ H R I h => ?_⟩
  refine Call_ (ld_blt I hg hm PyProof.Rows.boot_zip (PyProof.Rows.callWith_type1 (thn (ha.run pos pins s σ H _ I h) fun us s1 ⟨vs, H1, I1, r1, q1⟩ => ?_) hs hpl))
  obtain ⟨a, b, xs, ys, ex, hqx, hqy, q⟩ := q1
  subst ex
  cases r1 with
  | cons r rr =>
    cases rr with
    | cons r' rr =>
      cases rr
      cases r
      cases r'
      have fresh5 : ∀ c, c ∈ [s1.heap.objs.size + 4, s1.heap.objs.size + 2, s1.heap.objs.size + 3, s1.heap.objs.size, s1.heap.objs.size + 1] → FpOk X pins H1 c := fun c hcm => by
        have e' : c = s1.heap.objs.size + 4 ∨ c = s1.heap.objs.size + 2 ∨ c = s1.heap.objs.size + 3 ∨ c = s1.heap.objs.size ∨ c = s1.heap.objs.size + 1 := by simpa using hcm
        have hle : s1.heap.objs.size ≤ c := by
          rcases e' with z | z | z | z | z
          · rw [z]; exact Nat.le_add_right _ _
          · rw [z]; exact Nat.le_add_right _ _
          · rw [z]; exact Nat.le_add_right _ _
          · rw [z]; exact Nat.le_refl _
          · rw [z]; exact Nat.le_add_right _ _
        exact I1.fpOk hle (I1.hok.fresh hle)
      obtain ⟨its, rv, p1, _⟩ := I1.tuple hqx
      obtain ⟨its2, rv2, p2, _⟩ := I1.list hqy
      obtain ⟨o1, ho1, _⟩ := id p1
      have alt : a < s1.heap.objs.size := Heap.lt_size ho1
      have blt : b < s1.heap.objs.size := p2.lt
      refine zip_begins2 (begins_tuple a its.toArray) (begins_list b its2.toArray) p1 p2.isList fun h' hz hTI hTO g1 g2 hsz hk => wpAny_pyIter_zip hz ?_
      have I2 : Inv X pins σ H1 { s1 with heap := h' } := I1.kept (t' := s1.toks) hk
      have nb : ∀ k : Nat, (s1.heap.objs.size + k : Nat) ≠ b := fun k z => absurd blt (Nat.not_lt.mpr (by rw [← z]; exact Nat.le_add_right _ _))
      have na : ∀ k : Nat, (s1.heap.objs.size + k : Nat) ≠ a := fun k z => absurd alt (Nat.not_lt.mpr (by rw [← z]; exact Nat.le_add_right _ _))
      have nk : ∀ j k : Nat, j ≠ k → (s1.heap.objs.size + j : Nat) ≠ s1.heap.objs.size + k := fun j k e => by omega
      refine ⟨s1.heap.objs.size + 4, [s1.heap.objs.size + 4, s1.heap.objs.size + 2, s1.heap.objs.size + 3, s1.heap.objs.size, s1.heap.objs.size + 1], _, _, H1, rfl, I2, turn_zipM ?_ (na 0).symm (nb 1).symm, ⟨hz, hTI, ⟨_, _, hTO⟩, ⟨_, g1, rfl, rfl⟩, ⟨_, g2, rfl, rfl⟩⟩, fresh5, q⟩
      exact ⟨nk 2 4 (by decide), nk 3 4 (by decide), nk 2 3 (by decide), nk 2 0 (by decide), by simp,
        fun z => by rcases List.mem_cons.mp z with z | z; exact nk 4 0 (by decide) z; exact na 4 (List.mem_singleton.mp z),
        fun z => by rcases List.mem_cons.mp z with z | z; exact nk 3 0 (by decide) z; exact na 3 (List.mem_singleton.mp z), nk 2 1 (by decide), by simp,
        fun z => by rcases List.mem_cons.mp z with z | z; exact nk 4 1 (by decide) z; exact nb 4 (List.mem_singleton.mp z),
        fun z => by rcases List.mem_cons.mp z with z | z; exact nk 3 1 (by decide) z; exact nb 3 (List.mem_singleton.mp z),
        fun z => by rcases List.mem_cons.mp z with z | z; exact nk 0 1 (by decide) z; exact nb 0 (List.mem_singleton.mp z),
        fun z => by rcases List.mem_cons.mp z with z | z; exact nk 1 0 (by decide) z; exact na 1 (List.mem_singleton.mp z)⟩
theorem walk_zipM {K : PySem.W.Frag} {a b : Addr} {xs ys : List V} {n : Nat} (hn : n = min xs.length ys.length) : Walk (ItzM K a b) n (fun H => SqT K H a xs ∧ SqL K H b ys) (YPair (fun i => xs[i]?) (fun i => ys[i]?)) := by
  subst hn
  refine ⟨fun i _ hi q => ?_, fun _ q => ⟨xs, ys, q.1, q.2, by omega, by omega, by omega⟩, fun i H v H' _ q y => ?_⟩
  · have h1 : i < xs.length := by omega
    have h2 : i < ys.length := by omega
    exact ⟨xs, ys, xs[i], ys[i], q.1, q.2, by simp [h1], by simp [h2]⟩
  · obtain ⟨T, x, z, h1, h2, h3, h4, h5⟩ := y
    exact ⟨T, x, z, h1, h2, h3, h4 xs q.1, h5 ys q.2⟩
end Kk

set_option maxHeartbeats 8000000
namespace K48
open PySem PySem.Spec PyProof.Rows L2 Kk RZ
abbrev s_row : Stmt := topS 44
abbrev n_row : List Str := ["_law_state", "_law_worths", "_law_boxes_here", "_law_many"]
theorem sc_row : FnScope n_row ["_law_state"] (defScope s_row) := ⟨rfl, rfl, rfl, by decide +kernel, rfl, by decide +kernel, by decide +kernel⟩
theorem at_of {xs : List V} {v : Int} (h0 : 0 ≤ v) (h1 : v < xs.length) : ∃ x, atI xs v = some x ∧ x ∈ xs := by
  obtain ⟨x, h1, h2⟩ := atZ h0 h1
  exact ⟨x, h1, List.mem_of_getElem? h2⟩
section
variable {P : Program} {w : World} {K : PySem.W.Frag} {mg : Str → Option Value} {base : Heap}
def spRow (K : PySem.W.Frag) : Sp := fun vs H Q _ => ∃ (d : Addr), vs = [.ref d] ∧ St2 H d ∧
  ∀ H' p us (ws : List Wo) (B Wn : List Str), B.length ≤ 30 → Wn.length ≤ 6 → (∀ s ∈ Wn, PoolOk s) → Ex [d] H H' → St2 H' d → SqT K H' p us → P2 (WoH K H') us ws → (∀ W ∈ ws, WdR B Wn W) → ws.length ≤ 59 → NoK ws → Q (.ref p) H'
theorem ok_row {f f1 f2 f3 f4 f5 f6 : Addr} {fd d1 d2 d3 d4 d5 d6 : FuncData} {k : Nat} (F : Fun K "_law_row" "_law_row" s_row f fd) (C__law_draw : Cl P w K mg base k "_law_draw" ["_law_state", "_law_many"] spDraw f1 d1) (C__law_pool : Cl P w K mg base k "_law_pool" ["_law_state", "_law_many"] spPool f2 d2) (C__law_boxes : Cl P w K mg base k "_law_boxes" ["_law_state", "_law_many"] spBoxes f3 d3)
    (C__law_wide : Cl P w K mg base k "_law_wide" ["_law_state", "_law_worths"] (spWide K) f4 d4) (C__law_straight : Cl P w K mg base k "_law_straight" ["_law_state", "_law_boxes_here", "_law_worths", "_law_many"] (spStraight K) f5 d5) (C__law_wiped : Cl P w K mg base k "_law_wiped" ["_law_state", "_law_row_here"] (spWiped K) f6 d6) (m_int : mg "int" = none) : FnOk P w K mg base CX0 (k + 1) f fd ["_law_state"] (spRow K) := by
  refine F.ok sc_row (fun vs H Q E h => ?_) (fun cdv A outer s H vs Q E hr h => ?_)
  · obtain ⟨d, rfl, _⟩ := h; rfl
  · obtain ⟨d, rfl, hD, q⟩ := h
    refine ⟨_, (pss_cons (ps_set (i := 1) sc_row.nd rfl (.inl rfl) (pe_call C__law_pool.g hr (by rfl) C__law_pool.m C__law_pool.k C__law_pool.b .nil pass0 (pa_cons (pv 0) (pa_cons (pe_ix ix_list (pe_lst (pa_cons pe_int (pa_cons pe_int (pa_cons pe_int (pa_cons pe_int pa_nil))))) (pe_call C__law_draw.g hr (by rfl) C__law_draw.m C__law_draw.k C__law_draw.b .nil pass0 (pa_cons (pv 0) (pa_cons pe_int pa_nil))) (fun _ _ => rfl)) pa_nil))))
      (pss_cons (ps_if (pt_cmpR op_eq (pe_call C__law_draw.g hr (by rfl) C__law_draw.m C__law_draw.k C__law_draw.b .nil pass0 (pa_cons (pv 0) (pa_cons pe_int pa_nil))) pe_int (nomark _)) (pss_one (ps_ret (pe_call C__law_wide.g hr (by rfl) C__law_wide.m C__law_wide.k C__law_wide.b .nil pass0 (pa_cons (pv 0) (pa_cons (pv 1) pa_nil))))) pss_nil)
      (pss_cons (ps_set (i := 2) sc_row.nd rfl (.inl rfl) (pe_call C__law_boxes.g hr (by rfl) C__law_boxes.m C__law_boxes.k C__law_boxes.b .nil pass0 (pa_cons (pv 0) (pa_cons (pe_ix ix_list (pe_lst (pa_cons pe_int (pa_cons pe_int (pa_cons pe_int (pa_cons pe_int (pa_cons pe_int pa_nil)))))) (pe_call C__law_draw.g hr (by rfl) C__law_draw.m C__law_draw.k C__law_draw.b .nil pass0 (pa_cons (pv 0) (pa_cons pe_int pa_nil))) (fun _ _ => rfl)) pa_nil))))
      (pss_cons (ps_set (i := 3) sc_row.nd rfl (.inl rfl) (pe_ix ix_list (pe_lst (pa_cons (pe_call C__law_draw.g hr (by rfl) C__law_draw.m C__law_draw.k C__law_draw.b .nil pass0 (pa_cons (pv 0) (pa_cons pe_int pa_nil))) (pa_cons (pe_call C__law_draw.g hr (by rfl) C__law_draw.m C__law_draw.k C__law_draw.b .nil pass0 (pa_cons (pv 0) (pa_cons pe_int pa_nil))) pa_nil))) (pe_callTy call_int1 (by rfl) m_int (by decide +kernel) (pa_cons (pe_cmpR op_eq (pe_call C__law_draw.g hr (by rfl) C__law_draw.m C__law_draw.k C__law_draw.b .nil pass0 (pa_cons (pv 0) (pa_cons pe_int pa_nil))) pe_int (nomark _)) pa_nil)) (fun _ _ => rfl)))
      (pss_one (ps_ret (pe_call C__law_wiped.g hr (by rfl) C__law_wiped.m C__law_wiped.k C__law_wiped.b .nil pass0 (pa_cons (pv 0) (pa_cons (pe_call C__law_straight.g hr (by rfl) C__law_straight.m C__law_straight.k C__law_straight.b .nil pass0 (pa_cons (pv 0) (pa_cons (pv 2) (pa_cons (pv 1) (pa_cons (pv 3) pa_nil))))) pa_nil))))))))), ?_⟩
    refine ⟨.ref d, rfl, (by show 4 ≤ sizeLine; decide), fun M nM => ?_⟩
    obtain ⟨yM, hM⟩ := nw46 (o := .lst [V.int 1, .int 2, .int 3, .int 6]) nM
    have D1 := hD.ex yM (by simp)
    have dM : d ≠ M := (hD.ne nM).symm
    refine ⟨.ref d, rfl, d, 4, rfl, D1, by decide, by decide, fun H2 v v0 v1 x2 D2 => ?_⟩
    obtain ⟨x, ex, mx⟩ := at_of (xs := [V.int 1, .int 2, .int 3, .int 6]) v0 v1
    obtain ⟨m, rfl, m0, m6⟩ : ∃ m : Nat, x = .int m ∧ 0 < m ∧ m ≤ 6 := by
      simp only [List.mem_cons, List.not_mem_nil, or_false] at mx
      rcases mx with rfl | rfl | rfl | rfl
      · exact ⟨1, rfl, by decide, by decide⟩
      · exact ⟨2, rfl, by decide, by decide⟩
      · exact ⟨3, rfl, by decide, by decide⟩
      · exact ⟨6, rfl, by decide, by decide⟩
    refine ⟨M, _, v, .int m, rfl, rfl, .of (x2.lst hM (by simpa using dM.symm)), ex, d, m, rfl, D2, by omega, fun H3 wt Wn nwt x3 D3 hwt lwt pwt => ?_⟩
    have dwt : d ≠ wt := fun z => by obtain ⟨_, _, h, _⟩ := D2; rw [← z, h] at nwt; cases nwt
    have x03 : Ex [d] H H3 := (yM.nil.trans x2).trans x3
    refine ⟨.ref d, rfl, d, 8, rfl, D3, by decide, by decide, fun H4 v4 v40 v41 x4 D4 => ?_⟩
    have hwt4 := x4.lst hwt (by simpa using dwt.symm)
    have x04 := x03.trans x4
    refine ⟨rfl, _, rfl, ite2 (fun _ => ?_) (fun _ => ?_)⟩
    · refine ⟨.ref d, rfl, .ref wt, rfl, d, wt, Wn, rfl, D4, hwt4, by omega, by omega, fun H5 p us ws B lB x5 D5 h5 p5 w5 l5 k5 => ?_⟩
      exact q H5 p us ws B Wn lB (by omega) pwt (x04.trans x5) D5 h5 p5 w5 l5 k5
    · refine ⟨.ref d, rfl, (by show 5 ≤ sizeLine; decide), fun M2 nM2 => ?_⟩
      obtain ⟨y5, h5⟩ := nw46 (o := .lst [V.int 2, .int 3, .int 4, .int 6, .int 8]) nM2
      have D5 := D4.ex y5 (by simp)
      have dM2 : d ≠ M2 := (D4.ne nM2).symm
      refine ⟨.ref d, rfl, d, 5, rfl, D5, by decide, by decide, fun H6 v6 v60 v61 x6 D6 => ?_⟩
      obtain ⟨x, ex6, mx6⟩ := at_of (xs := [V.int 2, .int 3, .int 4, .int 6, .int 8]) v60 v61
      obtain ⟨bn, rfl, b0, b8⟩ : ∃ m : Nat, x = .int m ∧ 2 ≤ m ∧ m ≤ 8 := by
        simp only [List.mem_cons, List.not_mem_nil, or_false] at mx6
        rcases mx6 with rfl | rfl | rfl | rfl | rfl
        · exact ⟨2, rfl, by decide, by decide⟩
        · exact ⟨3, rfl, by decide, by decide⟩
        · exact ⟨4, rfl, by decide, by decide⟩
        · exact ⟨6, rfl, by decide, by decide⟩
        · exact ⟨8, rfl, by decide, by decide⟩
      refine ⟨M2, _, v6, .int bn, rfl, rfl, .of (x6.lst h5 (by simpa using dM2.symm)), ex6, d, bn, rfl, D6, b0, by omega, fun H7 bx B nbx x7 D7 hbx lbx pbx => ?_⟩
      have dbx : d ≠ bx := fun z => by obtain ⟨_, _, h, _⟩ := D6; rw [← z, h] at nbx; cases nbx
      have x47 : Ex [d] H4 H7 := (y5.nil.trans x6).trans x7
      have hwt7 := x47.lst hwt4 (by simpa using dwt.symm)
      refine ⟨.ref d, rfl, d, 9, rfl, D7, by decide, by decide, fun H8 v8 v80 v81 x8 D8 => ?_⟩
      refine ⟨.ref d, rfl, d, 33, rfl, D8, by decide, by decide, fun H9 v9 v90 v91 x9 D9 => ?_⟩
      refine ⟨(by show 2 ≤ sizeLine; decide), fun M3 nM3 => ?_⟩
      obtain ⟨y10, h10⟩ := nw46 (o := .lst [V.int v8, .int v9]) nM3
      have D10 := D9.ex y10 (by simp)
      have dM3 : d ≠ M3 := (D9.ne nM3).symm
      refine ⟨.ref d, rfl, d, 4, rfl, D10, by decide, by decide, fun H11 v11 v110 v111 x11 D11 => ?_⟩
      refine ⟨rfl, .inr ⟨_, rfl, ?_⟩⟩
      have h11 := x11.lst h10 (by simpa using dM3.symm)
      obtain ⟨mm, emm, lmm⟩ : ∃ mm : Nat, atI [V.int v8, .int v9] (if decide (V.int v11 = V.int 3) = true then 1 else 0) = some (.int mm) ∧ mm ≤ 32 := by
        split
        · exact ⟨v9.toNat, by rw [Int.toNat_of_nonneg v90]; rfl, by omega⟩
        · exact ⟨v8.toNat, by rw [Int.toNat_of_nonneg v80]; rfl, by omega⟩
      refine ⟨M3, _, _, .int mm, rfl, rfl, .of h11, emm, ?_⟩
      have x711 : Ex [d] H7 H11 := ((x8.trans x9).trans y10.nil).trans x11
      have hbx11 := x711.lst hbx (by simpa using dbx.symm)
      have hwt11 := x711.lst hwt7 (by simpa using dwt.symm)
      refine ⟨.ref d, rfl, .ref d, rfl, .ref bx, rfl, .ref wt, rfl, .int mm, rfl, d, bx, wt, B, Wn, mm, rfl, D11, hbx11, hwt11, by omega, by omega, by omega, by omega, by omega, fun H12 r us ws nr x12 D12 hr12 p12 l12 w12 => ?_⟩
      have rd : r ≠ d := fun z => by obtain ⟨_, _, h, _⟩ := D11; rw [z, h] at nr; cases nr
      refine ⟨d, r, B, Wn, us, ws, rfl, D12, hr12, rd, p12, w12, by omega, by omega, fun H13 p us' ws' x13 D13 h13 p13 w13 l13 k13 => ?_⟩
      exact q H13 p us' ws' B Wn (by omega) (by omega) pwt (x04.trans (x47.trans (x711.trans (x12.trans x13)))) D13 h13 p13 w13 (by omega) k13
end
end K48

namespace Kk
open PySem PySem.Spec PyProof.Rows L2
/-! max of a tuple of whole numbers -/
def rMaxT (K : PySem.W.Frag) : List V → Hp → VK → Prop := fun vs H Q => ∃ (a : Addr) (n : Int) (ns : List Int), vs = [V.ref a] ∧ SqT K H a ((n :: ns).map V.int) ∧ Q (.int (ns.foldl max n)) H
theorem dp_ints {K : PySem.W.Frag} {H : Hp} : ∀ ns : List Int, DpAll K H (ns.map V.int) (ns.map PyData.int)
  | [] => .nil
  | a :: r => .cons (.int a) (dp_ints r)
theorem dep_ints : ∀ ns : List Int, PyData.depthAll (ns.map PyData.int) = 0
  | [] => rfl
  | a :: r => by
    show max (PyData.depth (.int a)) (PyData.depthAll (r.map PyData.int)) = 0
    rw [dep_ints r]; rfl
theorem cr_maxT {X : Cx} {K : PySem.W.Frag} (hK : X.K = K) (hc : X.calm = true) (hu : X.A.units + 64 < cLine) : CallR X (.builtin "max") (rMaxT K) := by
  subst hK
  intro pins s σ H vs us Q I r h
  obtain ⟨a, n, ns, rfl, hs, q⟩ := h
  obtain ⟨its, rv, hl, _⟩ := I.tuple hs
  rw [Vals.ref1 r]
  obtain ⟨as, hr⟩ := Dp.readsAll I ((n :: ns).map PyData.int) _ _ (dp_ints (n :: ns)) rv
  refine PySem.W.max_tuple_data (x := .int n) (xs := ns.map PyData.int) (I.ok.hd hc) hl hr (PySem.W.alikeAll_datum (n :: ns)) ?_ fun i v h' tk bs hi rd hk => ?_
  · have := dep_ints (n :: ns)
    have e : PyData.depthAll (.int n :: ns.map PyData.int) = 0 := this
    rw [e]; omega
  · rw [PySem.W.maxD_ints] at rd
    cases rd
    exact ⟨.int _, H, I.kept hk, ⟨_, rfl⟩, q⟩
end Kk

set_option maxHeartbeats 8000000
namespace K48
open PySem PySem.Spec PyProof.Rows L2 Kk RZ
/-- an order, as it stands -/
abbrev OrH (K : PySem.W.Frag) (H : Hp) (v : V) (o : Or) : Prop := Tp K H v (orD o)
/-! which orders are right -/
def handsO : Or → List Nat
  | .take h _ => [h]
  | .ask h => [h]
  | .number h _ => [h]
  | .copy h g => [h, g]
  | .mix h g i => [h, g, i]
  | .opn h g => [h, g]
  | .tell h => [h]
  | .wipe h => [h]
  | .lay _ h => [h]
  | .fetch h _ => [h]
  | .clean _ => []
def restO : Or → Bool
  | .take _ s => nameB s
  | .number _ n => decide (0 ≤ n) && decide (n < 10000)
  | .lay s _ => decide (s < 60)
  | .fetch _ s => decide (s < 60)
  | .clean s => decide (s < 60)
  | _ => true
def hB (hh : Int) (h : Nat) : Bool := decide ((h : Int) < hh)
theorem p_name (hh : Int) (d : PyData) : partD hh (Str.ofString "name") d = nameD d := by unfold partD; rw [if_pos rfl]
theorem p_hand (hh : Int) (n : Nat) : partD hh (Str.ofString "hand") (.int n) = hB hh n := by
  unfold partD; rw [if_neg (by decide +kernel), if_pos rfl, below_int, decide_eq_true (Int.natCast_nonneg n)]; rfl
theorem p_slot (hh : Int) (n : Nat) : partD hh (Str.ofString "slot") (.int n) = decide (n < 60) := by
  unfold partD; rw [if_neg (by decide +kernel), if_neg (by decide +kernel), if_pos rfl, below_int, decide_eq_true (Int.natCast_nonneg n), Bool.true_and]
  by_cases h : n < 60
  · rw [decide_eq_true h]; exact decide_eq_true (by omega)
  · rw [decide_eq_false h]; exact decide_eq_false (by omega)
theorem p_num (hh : Int) (n : Int) : partD hh (Str.ofString "number") (.int n) = (decide (0 ≤ n) && decide (n < 10000)) := by
  unfold partD; rw [if_neg (by decide +kernel), if_neg (by decide +kernel), if_neg (by decide +kernel), below_int]
theorem form_at {hh : Int} {k : Str} {ks : List Str} {ps : List PyData} (e : frm? k = some ks) (l : ps.length = ks.length) : formD hh (.tuple (.str k :: ps)) = (ks.zip ps).all fun q => partD hh q.1 q.2 := by
  show (match frm? k with | some ks => decide (ps.length = ks.length) && (ks.zip ps).all (fun q => partD hh q.1 q.2) | none => false) = _
  rw [e]
  show (decide (ps.length = ks.length) && _) = _
  rw [decide_eq_true l, Bool.true_and]
theorem form_or (hh : Int) (o : Or) : formD hh (orD o) = ((handsO o).all (hB hh) && restO o) := by
  cases o with
  | take h s =>
    refine (form_at (k := Str.ofString "take") (ks := [Str.ofString "hand", Str.ofString "name"]) (by decide +kernel) rfl).trans ?_
    show (partD hh (Str.ofString "hand") (.int h) && (partD hh (Str.ofString "name") (.str s) && true)) = ((hB hh h && true) && nameB s)
    rw [p_hand, p_name, Bool.and_true, Bool.and_true]; rfl
  | ask h =>
    refine (form_at (k := Str.ofString "ask") (ks := [Str.ofString "hand"]) (by decide +kernel) rfl).trans ?_
    show (partD hh (Str.ofString "hand") (.int h) && true) = ((hB hh h && true) && true)
    rw [p_hand, Bool.and_true, Bool.and_true]
  | number h n =>
    refine (form_at (k := Str.ofString "number") (ks := [Str.ofString "hand", Str.ofString "number"]) (by decide +kernel) rfl).trans ?_
    show (partD hh (Str.ofString "hand") (.int h) && (partD hh (Str.ofString "number") (.int n) && true)) = ((hB hh h && true) && (decide (0 ≤ n) && decide (n < 10000)))
    rw [p_hand, p_num, Bool.and_true, Bool.and_true]
  | copy h g =>
    refine (form_at (k := Str.ofString "copy") (ks := [Str.ofString "hand", Str.ofString "hand"]) (by decide +kernel) rfl).trans ?_
    show (partD hh (Str.ofString "hand") (.int h) && (partD hh (Str.ofString "hand") (.int g) && true)) = ((hB hh h && (hB hh g && true)) && true)
    rw [p_hand, p_hand, Bool.and_true]; simp
  | mix h g i =>
    refine (form_at (k := Str.ofString "mix") (ks := [Str.ofString "hand", Str.ofString "hand", Str.ofString "hand"]) (by decide +kernel) rfl).trans ?_
    show (partD hh (Str.ofString "hand") (.int h) && (partD hh (Str.ofString "hand") (.int g) && (partD hh (Str.ofString "hand") (.int i) && true))) = ((hB hh h && (hB hh g && (hB hh i && true))) && true)
    rw [p_hand, p_hand, p_hand, Bool.and_true]; simp
  | opn h g =>
    refine (form_at (k := Str.ofString "open") (ks := [Str.ofString "hand", Str.ofString "hand"]) (by decide +kernel) rfl).trans ?_
    show (partD hh (Str.ofString "hand") (.int h) && (partD hh (Str.ofString "hand") (.int g) && true)) = ((hB hh h && (hB hh g && true)) && true)
    rw [p_hand, p_hand, Bool.and_true]; simp
  | tell h =>
    refine (form_at (k := Str.ofString "tell") (ks := [Str.ofString "hand"]) (by decide +kernel) rfl).trans ?_
    show (partD hh (Str.ofString "hand") (.int h) && true) = ((hB hh h && true) && true)
    rw [p_hand, Bool.and_true, Bool.and_true]
  | wipe h =>
    refine (form_at (k := Str.ofString "wipe") (ks := [Str.ofString "hand"]) (by decide +kernel) rfl).trans ?_
    show (partD hh (Str.ofString "hand") (.int h) && true) = ((hB hh h && true) && true)
    rw [p_hand, Bool.and_true, Bool.and_true]
  | lay s h =>
    refine (form_at (k := Str.ofString "lay") (ks := [Str.ofString "slot", Str.ofString "hand"]) (by decide +kernel) rfl).trans ?_
    show (partD hh (Str.ofString "slot") (.int s) && (partD hh (Str.ofString "hand") (.int h) && true)) = ((hB hh h && true) && decide (s < 60))
    rw [p_hand, p_slot, Bool.and_true, Bool.and_comm]
  | fetch h s =>
    refine (form_at (k := Str.ofString "fetch") (ks := [Str.ofString "hand", Str.ofString "slot"]) (by decide +kernel) rfl).trans ?_
    show (partD hh (Str.ofString "hand") (.int h) && (partD hh (Str.ofString "slot") (.int s) && true)) = ((hB hh h && true) && decide (s < 60))
    rw [p_hand, p_slot, Bool.and_true, Bool.and_true]
  | clean s =>
    refine (form_at (k := Str.ofString "clean") (ks := [Str.ofString "slot"]) (by decide +kernel) rfl).trans ?_
    show (partD hh (Str.ofString "slot") (.int s) && true) = (true && decide (s < 60))
    rw [p_slot, Bool.and_true, Bool.true_and]
/-- right but for its hands -/
def OrG (o : Or) : Prop := restO o = true ∧ StrW (asW o) ∧ (∀ h s, o = .take h s → s.length ≤ 1000)
def Hds (hh : Nat) (o : Or) : Prop := ∀ h ∈ handsO o, h < hh
theorem form_true {hh : Nat} {o : Or} (g : OrG o) (h : Hds hh o) : formD hh (orD o) = true := by
  rw [form_or, g.1, Bool.and_true, List.all_eq_true]
  exact fun x hx => decide_eq_true (by have := h x hx; omega)
theorem form_hands {hh : Nat} {o : Or} (g : OrG o) (n : ¬ Hds hh o) : formD hh (orD o) = false := by
  rw [form_or, g.1, Bool.and_true]
  rw [List.all_eq_false]
  refine Classical.byContradiction fun z => n fun x hx => ?_
  refine Decidable.byContradiction fun y => z ⟨x, hx, ?_⟩
  show ¬ decide ((x : Int) < (hh : Int)) = true
  rw [decide_eq_true_eq]; omega
theorem or_dk {o : Or} (g : OrG o) : Dk (orD o) := by
  have s8 : ∀ {z : String}, (Str.ofString z).length ≤ 1000 → Dk (.str (Str.ofString z)) := fun h => .str h
  have kl : (orK o).length ≤ 1000 := by cases o <;> simp only [orK] <;> decide +kernel
  have kd : Dk (.str (orK o)) := .str kl
  have pr : ∀ d ∈ orP o, Dk d := by
    intro d hd
    cases o with
    | take h s =>
      simp only [orP, List.mem_cons, List.not_mem_nil, or_false] at hd
      rcases hd with rfl | rfl
      · exact .int _
      · exact .str (g.2.2 h s rfl)
    | _ => simp only [orP, List.mem_cons, List.not_mem_nil, or_false] at hd; first | (rcases hd with rfl | rfl | rfl <;> exact .int _) | (rcases hd with rfl | rfl <;> exact .int _) | (rw [hd]; exact .int _)
  refine .tup ?_ fun d hd => ?_
  · cases o <;> simp [orP]
  · rcases List.mem_cons.mp hd with rfl | hd
    · exact kd
    · exact pr d hd
theorem code_dk {os : List Or} (l : os.length < 2000) (g : ∀ o ∈ os, OrG o) : Dk (.tuple (os.map orD)) :=
  .tup (by rw [List.length_map]; exact l) fun d hd => by obtain ⟨o, ho, rfl⟩ := List.mem_map.mp hd; exact or_dk (g o ho)
theorem code_all {hh : Nat} {os : List Or} (g : ∀ o ∈ os, OrG o) (h : ∀ o ∈ os, Hds hh o) : codeD hh (.tuple (os.map orD)) = true := by
  show (os.map orD).all (formD hh) = true
  rw [List.all_eq_true]
  intro d hd
  obtain ⟨o, ho, rfl⟩ := List.mem_map.mp hd
  exact form_true (g o ho) (h o ho)
theorem code_no {hh : Int} {ds : List PyData} {d : PyData} (m : d ∈ ds) (h : formD hh d = false) : codeD hh (.tuple ds) = false := by
  show ds.all (formD hh) = false
  rw [List.all_eq_false]
  exact ⟨d, m, by rw [h]; exact Bool.false_ne_true⟩
theorem asW_str {o : Or} (h : ∀ x s, o = .take x s → PyData.strOk s = true) : StrW (asW o) := fun s e => by
  cases o with
  | take x s' => obtain rfl : s' = s := PyData.str.inj (List.cons.inj e).1; exact h x s' rfl
  | _ => cases e
theorem laid_good {Dom : List Bx} {sl : Bx → Nat} {hh : Nat} {ws : List Wo} {os : List Or} {B Wn : List Str} (L : Laid Dom sl hh ws os) (ls : ∀ b, sl b < 60) (w : ∀ W ∈ ws, WdR B Wn W) (pw : ∀ s ∈ Wn, PoolOk s) : ∀ o ∈ os, OrG o ∧ Hds hh o ∧ ∀ s, (∀ b ∈ Dom, ¬ sl b = s) → ¬ bS s = boxW (asW o) := by
  induction L with
  | nil => intro o ho; cases ho
  | @snoc ws os ex W s0 s1 s2 L dm h1 h2 h3 l1 l2 l3 he ih =>
    have ih := ih fun V hV => w V (List.mem_append_left _ hV)
    have wW := w W (by simp)
    have pl : ∀ o, restO o = true → (∀ x s, ¬ o = .take x s) → OrG o := fun o r n => ⟨r, asW_str fun x s e => absurd e (n x s), fun x s e => absurd e (n x s)⟩
    have hd : ∀ {o : Or}, (∀ h ∈ handsO o, h = s0 ∨ h = s1 ∨ h = s2) → Hds hh o := fun q x hx => by rcases q x hx with rfl | rfl | rfl <;> assumption
    have nS : ∀ {s x : Nat}, ¬ bS s = bH x := fun z => by rw [bSH] at z; exact z
    have inD : ∀ {s : Nat} {b : Bx}, b ∈ boxW W :: askB W → (∀ b ∈ Dom, ¬ sl b = s) → ¬ bS s = bS (sl b) := fun {s b} m q z => q b (dm b m) (by rw [bSS] at z; exact z.symm)
    intro o ho
    rcases List.mem_append.mp ho with m | m
    · exact ih o m
    rcases List.mem_append.mp m with m | m
    · cases W with
      | take b s =>
        simp only [layW, List.mem_cons, List.not_mem_nil, or_false] at m
        rcases m with rfl | rfl | rfl
        · have p := pw s wW.2
          exact ⟨⟨p.n, asW_str fun x y e => by cases e; exact p.s, fun x y e => by cases e; exact Nat.le_trans p.l (by decide)⟩, hd (by simp [handsO]), fun s _ => nS⟩
        · exact ⟨pl _ (decide_eq_true (ls b)) (fun _ _ e => by cases e), hd (by simp [handsO]), fun s q => inD (by simp [boxW]) q⟩
        · exact ⟨pl _ rfl (fun _ _ e => by cases e), hd (by simp [handsO]), fun s _ => nS⟩
      | ask b =>
        simp only [layW, List.mem_cons, List.not_mem_nil, or_false] at m
        rcases m with rfl | rfl | rfl
        · exact ⟨pl _ rfl (fun _ _ e => by cases e), hd (by simp [handsO]), fun s _ => nS⟩
        · exact ⟨pl _ (decide_eq_true (ls b)) (fun _ _ e => by cases e), hd (by simp [handsO]), fun s q => inD (by simp [boxW]) q⟩
        · exact ⟨pl _ rfl (fun _ _ e => by cases e), hd (by simp [handsO]), fun s _ => nS⟩
      | number b n =>
        simp only [layW, List.mem_cons, List.not_mem_nil, or_false] at m
        rcases m with rfl | rfl | rfl
        · exact ⟨pl _ (by show (decide (0 ≤ n) && decide (n < 10000)) = true; rw [decide_eq_true wW.2.1, decide_eq_true wW.2.2]; rfl) (fun _ _ e => by cases e), hd (by simp [handsO]), fun s _ => nS⟩
        · exact ⟨pl _ (decide_eq_true (ls b)) (fun _ _ e => by cases e), hd (by simp [handsO]), fun s q => inD (by simp [boxW]) q⟩
        · exact ⟨pl _ rfl (fun _ _ e => by cases e), hd (by simp [handsO]), fun s _ => nS⟩
      | copy b c =>
        simp only [layW, List.mem_cons, List.not_mem_nil, or_false] at m
        rcases m with rfl | rfl | rfl | rfl | rfl
        · exact ⟨pl _ (decide_eq_true (ls c)) (fun _ _ e => by cases e), hd (by simp [handsO]), fun s _ => nS⟩
        · exact ⟨pl _ rfl (fun _ _ e => by cases e), hd (by simp [handsO]), fun s _ => nS⟩
        · exact ⟨pl _ (decide_eq_true (ls b)) (fun _ _ e => by cases e), hd (by simp [handsO]), fun s q => inD (by simp [boxW]) q⟩
        · exact ⟨pl _ rfl (fun _ _ e => by cases e), hd (by simp [handsO]), fun s _ => nS⟩
        · exact ⟨pl _ rfl (fun _ _ e => by cases e), hd (by simp [handsO]), fun s _ => nS⟩
      | opn b c =>
        simp only [layW, List.mem_cons, List.not_mem_nil, or_false] at m
        rcases m with rfl | rfl | rfl | rfl | rfl
        · exact ⟨pl _ (decide_eq_true (ls c)) (fun _ _ e => by cases e), hd (by simp [handsO]), fun s _ => nS⟩
        · exact ⟨pl _ rfl (fun _ _ e => by cases e), hd (by simp [handsO]), fun s _ => nS⟩
        · exact ⟨pl _ (decide_eq_true (ls b)) (fun _ _ e => by cases e), hd (by simp [handsO]), fun s q => inD (by simp [boxW]) q⟩
        · exact ⟨pl _ rfl (fun _ _ e => by cases e), hd (by simp [handsO]), fun s _ => nS⟩
        · exact ⟨pl _ rfl (fun _ _ e => by cases e), hd (by simp [handsO]), fun s _ => nS⟩
      | mix b c e =>
        simp only [layW, List.mem_cons, List.not_mem_nil, or_false] at m
        rcases m with rfl | rfl | rfl | rfl | rfl | rfl | rfl
        · exact ⟨pl _ (decide_eq_true (ls c)) (fun _ _ e => by cases e), hd (by simp [handsO]), fun s _ => nS⟩
        · exact ⟨pl _ (decide_eq_true (ls e)) (fun _ _ e => by cases e), hd (by simp [handsO]), fun s _ => nS⟩
        · exact ⟨pl _ rfl (fun _ _ e => by cases e), hd (by simp [handsO]), fun s _ => nS⟩
        · exact ⟨pl _ (decide_eq_true (ls b)) (fun _ _ e => by cases e), hd (by simp [handsO]), fun s q => inD (by simp [boxW]) q⟩
        · exact ⟨pl _ rfl (fun _ _ e => by cases e), hd (by simp [handsO]), fun s _ => nS⟩
        · exact ⟨pl _ rfl (fun _ _ e => by cases e), hd (by simp [handsO]), fun s _ => nS⟩
        · exact ⟨pl _ rfl (fun _ _ e => by cases e), hd (by simp [handsO]), fun s _ => nS⟩
      | tell b =>
        simp only [layW, List.mem_cons, List.not_mem_nil, or_false] at m
        rcases m with rfl | rfl | rfl
        · exact ⟨pl _ (decide_eq_true (ls b)) (fun _ _ e => by cases e), hd (by simp [handsO]), fun s _ => nS⟩
        · exact ⟨pl _ rfl (fun _ _ e => by cases e), hd (by simp [handsO]), fun s _ => nS⟩
        · exact ⟨pl _ rfl (fun _ _ e => by cases e), hd (by simp [handsO]), fun s _ => nS⟩
      | wipe b =>
        simp only [layW, List.mem_cons, List.not_mem_nil, or_false] at m
        rw [m]
        exact ⟨pl _ (decide_eq_true (ls b)) (fun _ _ e => by cases e), hd (by simp [handsO]), fun s q => inD (by simp [boxW]) q⟩
    · rcases he with rfl | ⟨h, n, rfl, hl, n0, n1⟩
      · cases m
      · rw [List.mem_singleton.mp m]
        exact ⟨pl _ (by show (decide (0 ≤ n) && decide (n < 10000)) = true; rw [decide_eq_true n0, decide_eq_true n1]; rfl) (fun _ _ e => by cases e), fun x hx => by rw [List.mem_singleton.mp hx]; exact hl, fun s _ => nS⟩
theorem or_inv {K : PySem.W.Frag} {H : Hp} {v : V} {o : Or} (h : OrH K H v o) : ∃ a, v = .ref a ∧ SqT K H a (.str (orK o) :: orV o) := by
  unfold OrH orD at h
  cases h with
  | tup hs ha =>
    cases ha with
    | cons h0 h1 =>
      cases h0
      rw [or_vals h1] at hs
      exact ⟨_, rfl, hs⟩
theorem cut12 {x y : V} {r : List V} : cutV (x :: y :: r) (some 1) (some 2) = [y] := by
  unfold cutV
  rw [show HT.sIx (x :: y :: r).length 0 (some 1) = min 1 (x :: y :: r).length from HT.sIx_nat .., show HT.sIx (x :: y :: r).length (x :: y :: r).length (some 2) = min 2 (x :: y :: r).length from HT.sIx_nat ..]
  rw [Nat.min_eq_left (by simp), Nat.min_eq_left (by simp)]
  rfl
end K48

set_option maxHeartbeats 8000000
namespace K48
open PySem PySem.Spec PyProof.Rows L2 Kk RZ
/-! what code_holds tells of the codes laid -/
theorem kA_aM {a : As} (h : AOk a) : kA (aM a.ms) = fun _ => false := by
  funext b
  show kk a.ms 0 = false
  exact kk_zero h.w
theorem aM_ok {a : As} (h : AOk a) : AOk (aM a.ms) := ⟨h.w, fun _ => h.p⟩
structure LaidOk (hh : Nat) (ws : List Wo) (os : List Or) : Prop where
  h : ∀ h, kA (runA a0 (os.map asW)) (bH h) = false
  s : ∀ s, kA (runA a0 (os.map asW)) (bS s) = false
  X : (runA (aM (runA a0 (os.map asW)).ms) ws).X = (runA a0 (os.map asW)).X
  g : ∀ o ∈ os, OrG o
  d : ∀ o ∈ os, Hds hh o
theorem holds_laid {hh : Nat} {ws : List Wo} {os : List Or} (h : LaidOk hh ws os) : holdsB ws os = true := holds_true h.h h.s h.X fun o ho => (h.g o ho).2.1
theorem wipe_good {x : Nat} : OrG (.wipe x) := ⟨rfl, fun s e => (by cases e), fun _ _ e => (by cases e)⟩
theorem clean_good {x : Nat} (h : x < 60) : OrG (.clean x) := ⟨decide_eq_true h, fun s e => (by cases e), fun _ _ e => (by cases e)⟩
def RwH (K : PySem.W.Frag) (H : Hp) (r : Addr) (ws : List Wo) : Prop := ∃ xs, SqT K H r xs ∧ P2 (WoH K H) xs ws
theorem RwH.ex {K : PySem.W.Frag} {H H' : Hp} {r : Addr} {ws : List Wo} {xs : List Addr} (h : RwH K H r ws) (e : Ex xs H H') : RwH K H' r ws := by
  obtain ⟨us, a, b⟩ := h
  exact ⟨us, e.seqT a, b.imp fun _ _ h => h.ex e⟩
structure RwP (ws : List Wo) (B Wn : List Str) : Prop where
  b : B.length ≤ 30
  n : Wn.length ≤ 6
  p : ∀ s ∈ Wn, PoolOk s
  w : ∀ W ∈ ws, WdR B Wn W
  l : ws.length ≤ 80
  k : NoK ws
def Tabs (H : Hp) (T1 T3 T4 T5 : Addr) : Prop := GxR.TabG H T1 ∧ GxR.TabG H T3 ∧ GxR.TabG H T4 ∧ GxR.TabG H T5
theorem Tabs.ex {H H' : Hp} {T1 T3 T4 T5 : Addr} {xs : List Addr} (h : Tabs H T1 T3 T4 T5) (e : Ex xs H H') : Tabs H' T1 T3 T4 T5 := ⟨e.t _ h.1, e.t _ h.2.1, e.t _ h.2.2.1, e.t _ h.2.2.2⟩
section
variable {P : Program} {w : World} {K : PySem.W.Frag} {mg : Str → Option Value} {base : Heap}
theorem or_dps {H : Hp} {us : List V} {os : List Or} (h : P2 (OrH K H) us os) : DpAll K H us (os.map orD) := by
  induction h with
  | nil => exact .nil
  | cons a t ih => exact .cons a.dp ih
theorem or_tps {H : Hp} {us : List V} {os : List Or} (h : P2 (OrH K H) us os) : TpAll K H us (os.map orD) := by
  induction h with
  | nil => exact .nil
  | cons a t ih => exact .cons a ih
def Pre (K : PySem.W.Frag) (T1 T3 T4 T5 r : Addr) (H : Hp) (v : V) (d : PyData) (ws : List Wo) (xs : List V) : Prop := Dp K H v d ∧ Dk d ∧ GxR.TabG H T1 ∧ GxR.TabG H T3 ∧ GxR.TabG H T4 ∧ GxR.TabG H T5 ∧ SqT K H r xs ∧ P2 (WoH K H) xs ws ∧ (∀ W ∈ ws, KdW true W) ∧ (∀ W ∈ ws, StrW W) ∧ ws.length ≤ 500
theorem pre_bad {T1 T3 T4 T5 r : Addr} {v : V} {d : PyData} {H : Hp} {ws : List Wo} {B Wn : List Str} (tb : Tabs H T1 T3 T4 T5) (hr : RwH K H r ws) (p : RwP ws B Wn) (hd : Dp K H v d) (kd : Dk d) : ∃ xs, Pre K T1 T3 T4 T5 r H v d ws xs := by
  obtain ⟨t1, t3, t4, t5⟩ := tb
  obtain ⟨xs, h1, h2⟩ := hr
  exact ⟨xs, hd, kd, t1, t3, t4, t5, h1, h2, fun W hW => (p.w W hW).kd, fun W hW => (p.w W hW).str p.p, by have := p.l; omega⟩
theorem pre_good {T1 T3 T4 T5 r t : Addr} {H : Hp} {ws : List Wo} {B Wn : List Str} {us : List V} {os : List Or} {n : Nat} (tb : Tabs H T1 T3 T4 T5) (hr : RwH K H r ws) (p : RwP ws B Wn) (ht : SqT K H t us) (hu : P2 (OrH K H) us os) (l : os.length ≤ 1900) (g : ∀ o ∈ os, OrG o) (d : ∀ o ∈ os, Hds n o) : ∃ xs, Pre K T1 T3 T4 T5 r H (.ref t) (.tuple (os.map orD)) ws xs ∧ codeD n (.tuple (os.map orD)) = true ∧ Tp K H (.ref t) (.tuple (os.map orD)) ∧ os.length ≤ 1900 ∧ (∀ o ∈ os, StrW (asW o)) := by
  obtain ⟨xs, h⟩ := pre_bad tb hr p (.tup ht (or_dps hu)) (code_dk (by omega) g)
  exact ⟨xs, h, code_all g d, .tup ht (or_tps hu), l, fun o ho => (g o ho).2.1⟩
def hiO (o : Or) : Bool := decide (∃ h ∈ handsO o, 2 < h)
theorem max_gt : ∀ (ns : List Nat) (m : Nat), (2 < (((ns.map fun n : Nat => (n : Int)).foldl max (m : Int))) ↔ 2 < m ∨ ∃ h ∈ ns, 2 < h)
  | [], m => by
    show (2 : Int) < (m : Int) ↔ _
    constructor
    · intro h; exact .inl (by omega)
    · rintro (h | ⟨_, h, _⟩)
      · omega
      · cases h
  | a :: r, m => by
    have e : ((a :: r).map fun n : Nat => (n : Int)).foldl max (m : Int) = (r.map fun n : Nat => (n : Int)).foldl max ((max m a : Nat) : Int) := by
      show (r.map fun n : Nat => (n : Int)).foldl max (max (m : Int) (a : Int)) = _
      congr 1
      omega
    rw [e, max_gt r (max m a)]
    constructor
    · rintro (h | ⟨x, hx, h⟩)
      · by_cases z : 2 < m
        · exact .inl z
        · exact .inr ⟨a, List.mem_cons_self, by omega⟩
      · exact .inr ⟨x, List.mem_cons_of_mem _ hx, h⟩
    · rintro (h | ⟨x, hx, h⟩)
      · exact .inl (by omega)
      · rcases List.mem_cons.mp hx with rfl | hx
        · exact .inl (by omega)
        · exact .inr ⟨x, hx, h⟩
theorem not_hi {o : Or} (h : hiO o = false) : Hds 3 o := fun x hx => by
  have := of_decide_eq_false h
  refine Decidable.byContradiction fun z => this ⟨x, hx, by omega⟩
theorem is_hi {o : Or} (h : hiO o = true) : ¬ Hds 3 o := fun z => by
  obtain ⟨x, hx, l⟩ := of_decide_eq_true h
  have := z x hx
  omega
end
end K48

set_option maxHeartbeats 4000000
namespace K48
open PySem PySem.Spec PyProof.Rows L2 Kk
/-! a row's parts: what is asked and put at each place -/
abbrev rA (ws : List Wo) (j : Nat) : As := runA a0 (ws.take j)
abbrev rT (ws : List Wo) (j : Nat) : Tt := runTt t0 (ws.take j)
abbrev tb (ws : List Wo) : List Fo := (runA a0 ws).ms
def pAt (ws : List Wo) (j : Nat) : Option (Wo × List Nat × Option Nat) := (ws[j]?).map fun W => (W, (askB W).map (rA ws j).g, (formB (rA ws j).ms (rA ws j).wt ((askB W).map (rA ws j).g) W).2.2)
def putAt (ws : List Wo) (j : Nat) : Option Nat := (pAt ws j).bind fun p => p.2.2
theorem take_snoc {α : Type} {l : List α} {j : Nat} {x : α} (h : l[j]? = some x) : l.take (j + 1) = l.take j ++ [x] := by rw [List.take_add_one, h]; rfl
theorem rA_succ {ws : List Wo} {j : Nat} {W : Wo} (h : ws[j]? = some W) : rA ws (j + 1) = stepA (rA ws j) W := by
  show runA a0 (ws.take (j + 1)) = _
  rw [take_snoc h, runA_app]; rfl
theorem rT_succ {ws : List Wo} {j : Nat} {W : Wo} (h : ws[j]? = some W) : rT ws (j + 1) = stepTt (rT ws j) W := by
  show runTt t0 (ws.take (j + 1)) = _
  rw [take_snoc h, runTt_app]; rfl
theorem rA_pre (ws : List Wo) (j : Nat) : (rA ws j).ms <+: tb ws := by
  have e : ws = ws.take j ++ ws.drop j := (List.take_append_drop j ws).symm
  show (runA a0 (ws.take j)).ms <+: (runA a0 ws).ms
  conv => rhs; rw [e, runA_app]
  exact pre_run (a0_ok.run _) _
theorem rS (ws : List Wo) (j : Nat) : TrS (rA ws j) (rT ws j) := trS_a0.run
theorem tbW (ws : List Wo) : WF (tb ws) := (a0_ok.run ws).w
theorem r_g (ws : List Wo) (j : Nat) (b : Bx) : tr (tb ws) ((rA ws j).g b) = (rT ws j).g b := by
  rw [tr_pre (rA_pre ws j) ((rS ws j).ok.v b)]; exact (rS ws j).g b
theorem r_lt (ws : List Wo) (j : Nat) (b : Bx) : (rA ws j).g b < (tb ws).length := Nat.lt_of_lt_of_le ((rS ws j).ok.v b) (rA_pre ws j).length_le
/-- what a box holds was put, or is nothing -/
theorem g_put (ws : List Wo) : ∀ (j : Nat) (b : Bx), (rA ws j).g b = 0 ∨ ∃ i, i < j ∧ putAt ws i = some ((rA ws j).g b)
  | 0, b => .inl rfl
  | j + 1, b => by
    cases e : ws[j]? with
    | none =>
      have e2 : ws.take (j + 1) = ws.take j := by rw [List.take_add_one, e]; simp
      show (runA a0 (ws.take (j + 1))).g b = 0 ∨ ∃ i, i < j + 1 ∧ putAt ws i = some ((runA a0 (ws.take (j + 1))).g b)
      rw [e2]
      exact (g_put ws j b).imp id fun ⟨i, l, h⟩ => ⟨i, by omega, h⟩
    | some W =>
      rw [rA_succ e]
      show setG (rA ws j).g (boxW W) (formB (rA ws j).ms (rA ws j).wt ((askB W).map (rA ws j).g) W).2.2 b = 0 ∨ _
      have pe : putAt ws j = (formB (rA ws j).ms (rA ws j).wt ((askB W).map (rA ws j).g) W).2.2 := by unfold putAt pAt; rw [e]; rfl
      show setG (rA ws j).g (boxW W) (formB (rA ws j).ms (rA ws j).wt ((askB W).map (rA ws j).g) W).2.2 b = 0 ∨ ∃ i, i < j + 1 ∧ putAt ws i = some (setG (rA ws j).g (boxW W) (formB (rA ws j).ms (rA ws j).wt ((askB W).map (rA ws j).g) W).2.2 b)
      rw [← pe]
      have old := (g_put ws j b).imp id fun (⟨i, l, h⟩ : ∃ i, i < j ∧ putAt ws i = some ((rA ws j).g b)) => (⟨i, by omega, h⟩ : ∃ i, i < j + 1 ∧ putAt ws i = some ((rA ws j).g b))
      cases q : putAt ws j with
      | none => exact old
      | some n =>
        show (if b = boxW W then n else (rA ws j).g b) = 0 ∨ ∃ i, i < j + 1 ∧ putAt ws i = some (if b = boxW W then n else (rA ws j).g b)
        by_cases z : b = boxW W
        · rw [if_pos z]; exact .inr ⟨j, by omega, q⟩
        · rw [if_neg z]; exact old
/-- a put form's tree -/
theorem put_tr {ws : List Wo} {j p : Nat} {W : Wo} (h : ws[j]? = some W) (e : putAt ws j = some p) : some (tr (tb ws) p) = (tW (rT ws j).wt ((askB W).map (rT ws j).g) W).2 ∧ p < (tb ws).length := by
  have pe : putAt ws j = (formB (rA ws j).ms (rA ws j).wt ((askB W).map (rA ws j).g) W).2.2 := by unfold putAt pAt; rw [h]; rfl
  have pe' : (formB (rA ws j).ms (rA ws j).wt ((askB W).map (rA ws j).g) W).2.2 = some p := pe.symm.trans e
  have s1 := rS ws (j + 1)
  have e1 : (rA ws (j + 1)).g (boxW W) = p := by
    rw [rA_succ h]
    show setG _ (boxW W) _ (boxW W) = p
    rw [pe']
    exact if_pos rfl
  have l := r_lt ws (j + 1) (boxW W)
  have g := r_g ws (j + 1) (boxW W)
  rw [e1] at l g
  refine ⟨?_, l⟩
  have nt : (tW (rT ws j).wt ((askB W).map (rT ws j).g) W).2 ≠ none := by
    cases W with
    | tell b => cases pe'
    | _ => exact fun z => by cases z
  rw [g, rT_succ h]
  show some (setT (rT ws j).g (boxW W) (tW (rT ws j).wt ((askB W).map (rT ws j).g) W).2 (boxW W)) = _
  cases q : (tW (rT ws j).wt ((askB W).map (rT ws j).g) W).2 with
  | none => exact absurd q nt
  | some t => show some (if boxW W = boxW W then t else _) = some t; rw [if_pos rfl]
/-! what the laying knows of last times -/
def NumF (ws : List Wo) (f : Nat) : Prop := ∃ n, tr (tb ws) f = .number n
def Due (ws : List Wo) (lst : Nat → Option Nat) (a f : Nat) : Prop := ¬ NumF ws f ∧ ∃ l, lst f = some l ∧ a ≤ l
theorem Due.mono {ws : List Wo} {lst : Nat → Option Nat} {a b f : Nat} (h : Due ws lst b f) (l : a ≤ b) : Due ws lst a f := ⟨h.1, h.2.imp fun _ ⟨e, q⟩ => ⟨e, Nat.le_trans l q⟩⟩
theorem due_zero {ws : List Wo} {lst : Nat → Option Nat} {a : Nat} : ¬ Due ws lst a 0 := fun h => h.1 ⟨0, tr_zero (tbW ws)⟩
/-- the invariant: due from place a on, j parts done -/
structure LInv (n : Nat) (ws : List Wo) (lst : Nat → Option Nat) (a j : Nat) (hs ss : List Nat) (os : List Or) : Prop where
  hl : hs.length = n
  sl : ss.length = 60
  hb : ∀ f ∈ hs, f < (tb ws).length
  sb : ∀ f ∈ ss, f < (tb ws).length
  gh : ∀ h, (runTt t0 (os.map asW)).g (bH h) = tr (tb ws) (hs.getD h 0)
  gs : ∀ s, (runTt t0 (os.map asW)).g (bS s) = tr (tb ws) (ss.getD s 0)
  wt : (runTt t0 (os.map asW)).wt = (rT ws j).wt
  X : (runTt t0 (os.map asW)).X = (rT ws j).X
  og : ∀ o ∈ os, OrG o ∧ Hds n o
  av : ∀ f i, i < j → putAt ws i = some f → Due ws lst a f → f ∈ hs ∨ f ∈ ss
  ds : ∀ s s', s < 60 → s' < 60 → ss.getD s 0 = ss.getD s' 0 → Due ws lst a (ss.getD s 0) → s = s'
  mh : ∀ f ∈ hs, f = 0 ∨ ∃ i, i < j ∧ putAt ws i = some f
  ms : ∀ f ∈ ss, f = 0 ∨ ∃ i, i < j ∧ putAt ws i = some f
theorem LInv.start {n : Nat} {ws : List Wo} {lst : Nat → Option Nat} : LInv n ws lst 0 0 (List.replicate n 0) (List.replicate 60 0) [] := by
  have z : ∀ (m i : Nat), (List.replicate m 0).getD i 0 = 0 := fun m i => by
    rw [List.getD_eq_getElem?_getD, List.getElem?_replicate]; split <;> rfl
  have l0 : 0 < (tb ws).length := by obtain ⟨⟨r, e⟩, _⟩ := tbW ws; rw [e]; simp
  refine ⟨List.length_replicate, List.length_replicate, fun f hf => ?_, fun f hf => ?_, fun h => ?_, fun s => ?_, rfl, rfl, (by simp), fun f i hi => by omega, fun s s' _ _ _ d => ?_, fun f hf => .inl (List.eq_of_mem_replicate hf), fun f hf => .inl (List.eq_of_mem_replicate hf)⟩
  · rw [List.eq_of_mem_replicate hf]; exact l0
  · rw [List.eq_of_mem_replicate hf]; exact l0
  · rw [z, tr_zero (tbW ws)]; rfl
  · rw [z, tr_zero (tbW ws)]; rfl
  · rw [z] at d; exact absurd d due_zero
theorem LInv.later {n : Nat} {ws : List Wo} {lst : Nat → Option Nat} {a b j : Nat} {hs ss : List Nat} {os : List Or} (I : LInv n ws lst a j hs ss os) (h : a ≤ b) : LInv n ws lst b j hs ss os :=
  ⟨I.hl, I.sl, I.hb, I.sb, I.gh, I.gs, I.wt, I.X, I.og, fun f i l e d => I.av f i l e (d.mono h), fun s s' l l' e d => I.ds s s' l l' e (d.mono h), I.mh, I.ms⟩
theorem getD_set {l : List Nat} {i k v d : Nat} (h : i < l.length) : (l.set i v).getD k d = if k = i then v else l.getD k d := by
  rw [List.getD_eq_getElem?_getD, List.getD_eq_getElem?_getD, List.getElem?_set]
  by_cases e : i = k
  · rw [if_pos e, if_pos e.symm, if_pos h]; rfl
  · rw [if_neg e, if_neg fun z => e z.symm]
theorem getD_mem {l : List Nat} {i d : Nat} (h : i < l.length) : l.getD i d ∈ l := by
  rw [List.getD_eq_getElem?_getD, List.getElem?_eq_getElem h]; exact List.getElem_mem h
theorem mem_get {l : List Nat} {f : Nat} (h : f ∈ l) : ∃ i, i < l.length ∧ l.getD i 0 = f := by
  obtain ⟨i, hi, e⟩ := List.getElem_of_mem h
  exact ⟨i, hi, by rw [List.getD_eq_getElem?_getD, List.getElem?_eq_getElem hi]; exact e⟩
theorem mem_set {l : List Nat} {i v f : Nat} (h : f ∈ l.set i v) : f = v ∨ f ∈ l := by
  rcases List.mem_or_eq_of_mem_set h with m | e
  · exact .inr m
  · exact .inl e
theorem set_keep {l : List Nat} {i v f : Nat} (h : f ∈ l) (n : l.getD i 0 ≠ f) : f ∈ l.set i v := by
  obtain ⟨k, hk, e⟩ := mem_get h
  have ki : k ≠ i := fun z => n (by rw [← z]; exact e)
  by_cases q : i < l.length
  · have : (l.set i v).getD k 0 = f := by rw [getD_set q, if_neg ki]; exact e
    exact this ▸ getD_mem (d := 0) (by rw [List.length_set]; exact hk)
  · rw [List.set_eq_of_length_le (by omega)]; exact h
theorem set_new {l : List Nat} {i v : Nat} (h : i < l.length) : v ∈ l.set i v := by
  have : (l.set i v).getD i 0 = v := by rw [getD_set h, if_pos rfl]
  have m := getD_mem (l := l.set i v) (i := i) (d := 0) (by rw [List.length_set]; exact h)
  rw [this] at m; exact m
theorem run_snoc {os : List Or} {o : Or} : runTt t0 ((os ++ [o]).map asW) = stepTt (runTt t0 (os.map asW)) (asW o) := by rw [List.map_append, runTt_app]; rfl
/-- an order that puts into hand h the form f -/
theorem LInv.hand {n : Nat} {ws : List Wo} {lst : Nat → Option Nat} {a j j' : Nat} {hs ss : List Nat} {os : List Or} (I : LInv n ws lst a j hs ss os) {h f : Nat} {o : Or} (hn : h < n) (dr : ¬ Due ws lst a (hs.getD h 0) ∨ hs.getD h 0 ∈ ss) (lf : f < (tb ws).length)
    (jj : j ≤ j') (hg : ∀ b, (stepTt (runTt t0 (os.map asW)) (asW o)).g b = if b = bH h then tr (tb ws) f else (runTt t0 (os.map asW)).g b) (hw : (stepTt (runTt t0 (os.map asW)) (asW o)).wt = (rT ws j').wt) (hX : (stepTt (runTt t0 (os.map asW)) (asW o)).X = (rT ws j').X)
    (go : OrG o ∧ Hds n o) (mf : f = 0 ∨ ∃ i, i < j' ∧ putAt ws i = some f) (nw : ∀ i p, j ≤ i → i < j' → putAt ws i = some p → Due ws lst a p → p = f ∨ p ∈ ss ∨ p ∈ hs ∧ hs.getD h 0 ≠ p) : LInv n ws lst a j' (hs.set h f) ss (os ++ [o]) := by
  have hh : h < hs.length := by rw [I.hl]; exact hn
  refine ⟨by rw [List.length_set]; exact I.hl, I.sl, fun x hx => ?_, I.sb, fun k => ?_, fun s => ?_, by rw [run_snoc]; exact hw, by rw [run_snoc]; exact hX, fun x hx => ?_, fun x i hi e d => ?_, I.ds, fun x hx => ?_, fun x hx => (I.ms x hx).imp id fun ⟨i, l, e⟩ => ⟨i, by omega, e⟩⟩
  · rcases mem_set hx with rfl | m
    · exact lf
    · exact I.hb x m
  · rw [run_snoc, hg, getD_set hh]
    by_cases e : k = h
    · rw [if_pos e, if_pos (by rw [e])]
    · rw [if_neg e, if_neg fun z => e (by rw [bHH] at z; exact z), I.gh]
  · rw [run_snoc, hg, if_neg fun z => by rw [bSH] at z; exact z, I.gs]
  · rcases List.mem_append.mp hx with m | m
    · exact I.og x m
    · rw [List.mem_singleton.mp m]; exact go
  · by_cases l : i < j
    · rcases I.av x i l e d with m | m
      · by_cases q : hs.getD h 0 = x
        · rw [q] at dr
          rcases dr with z | z
          · exact absurd d z
          · exact .inr z
        · exact .inl (set_keep m q)
      · exact .inr m
    · rcases nw i x (by omega) hi e d with rfl | m | ⟨m, q⟩
      · exact .inl (set_new hh)
      · exact .inr m
      · exact .inl (set_keep m q)
  · rcases mem_set hx with rfl | m
    · exact mf
    · exact (I.mh x m).imp id fun ⟨i, l, e⟩ => ⟨i, by omega, e⟩
/-- a hand laid into a slot that nothing due lies in -/
theorem LInv.lay {n : Nat} {ws : List Wo} {lst : Nat → Option Nat} {a j : Nat} {hs ss : List Nat} {os : List Or} (I : LInv n ws lst a j hs ss os) {h s : Nat} (hn : h < n) (hs60 : s < 60) (fr : ¬ Due ws lst a (ss.getD s 0)) (ni : hs.getD h 0 ∉ ss) : LInv n ws lst a j hs (ss.set s (hs.getD h 0)) (os ++ [.lay s h]) := by
  have hh : h < hs.length := by rw [I.hl]; exact hn
  have hs' : s < ss.length := by rw [I.sl]; exact hs60
  have st : stepTt (runTt t0 (os.map asW)) (asW (.lay s h)) = ⟨fun c => if c = bS s then (runTt t0 (os.map asW)).g (bH h) else (runTt t0 (os.map asW)).g c, (runTt t0 (os.map asW)).wt, (runTt t0 (os.map asW)).X⟩ := rfl
  refine ⟨I.hl, by rw [List.length_set]; exact I.sl, I.hb, fun x hx => ?_, fun k => ?_, fun k => ?_, by rw [run_snoc, st]; exact I.wt, by rw [run_snoc, st]; exact I.X, fun x hx => ?_, fun x i hi e d => ?_, fun k k' lk lk' e d => ?_, I.mh, fun x hx => ?_⟩
  · rcases mem_set hx with rfl | m
    · exact I.hb _ (getD_mem hh)
    · exact I.sb x m
  · rw [run_snoc, st]
    show (if bH k = bS s then (runTt t0 (os.map asW)).g (bH h) else (runTt t0 (os.map asW)).g (bH k)) = _
    rw [if_neg fun z => by rw [bHS] at z; exact z, I.gh]
  · rw [run_snoc, st, getD_set hs']
    show (if bS k = bS s then (runTt t0 (os.map asW)).g (bH h) else (runTt t0 (os.map asW)).g (bS k)) = _
    by_cases e : k = s
    · rw [if_pos e, if_pos (by rw [e]), I.gh]
    · rw [if_neg e, if_neg fun z => e (by rw [bSS] at z; exact z), I.gs]
  · rcases List.mem_append.mp hx with m | m
    · exact I.og x m
    · rw [List.mem_singleton.mp m]
      exact ⟨⟨decide_eq_true hs60, fun w e => (by cases e), fun _ _ e => (by cases e)⟩, fun y hy => by rw [List.mem_singleton.mp hy]; exact hn⟩
  · rcases I.av x i hi e d with m | m
    · exact .inl m
    · exact .inr (set_keep m fun z => fr (by rw [z]; exact d))
  · rw [getD_set hs', getD_set hs'] at e
    rw [getD_set hs'] at d
    have inS : ∀ k, k < 60 → ss.getD k 0 ∈ ss := fun k lk => getD_mem (by rw [I.sl]; exact lk)
    by_cases e1 : k = s
    · by_cases e2 : k' = s
      · rw [e1, e2]
      · rw [if_pos e1, if_neg e2] at e
        exact absurd (e ▸ inS k' lk') ni
    · by_cases e2 : k' = s
      · rw [if_neg e1, if_pos e2] at e
        exact absurd (e ▸ inS k lk) ni
      · rw [if_neg e1, if_neg e2] at e
        rw [if_neg e1] at d
        exact I.ds k k' lk lk' e d
  · rcases mem_set hx with rfl | m
    · exact I.mh _ (getD_mem hh)
    · exact I.ms x m
/-- a part that puts out no order -/
theorem LInv.skip {n : Nat} {ws : List Wo} {lst : Nat → Option Nat} {a j : Nat} {hs ss : List Nat} {os : List Or} (I : LInv n ws lst a j hs ss os) (hw : (rT ws (j + 1)).wt = (rT ws j).wt) (hX : (rT ws (j + 1)).X = (rT ws j).X) (nw : ∀ p, putAt ws j = some p → Due ws lst a p → p ∈ hs ∨ p ∈ ss) : LInv n ws lst a (j + 1) hs ss os :=
  ⟨I.hl, I.sl, I.hb, I.sb, I.gh, I.gs, I.wt.trans hw.symm, I.X.trans hX.symm, I.og, fun f i l e d => by
    by_cases q : i < j
    · exact I.av f i q e d
    · obtain rfl : i = j := by omega
      exact nw f e d, I.ds, fun x hx => (I.mh x hx).imp id fun ⟨i, l, e⟩ => ⟨i, by omega, e⟩, fun x hx => (I.ms x hx).imp id fun ⟨i, l, e⟩ => ⟨i, by omega, e⟩⟩
end K48

set_option maxHeartbeats 4000000
namespace K48
open PySem PySem.Spec PyProof.Rows L2 Kk
section
variable {n : Nat} {ws : List Wo} {lst : Nat → Option Nat} {a j : Nat} {hs ss : List Nat} {os : List Or}
/-- a number's form, made in a hand -/
theorem LInv.fetchN (I : LInv n ws lst a j hs ss os) {h f : Nat} {v : Int} (hn : h < n) (dr : ¬ Due ws lst a (hs.getD h 0) ∨ hs.getD h 0 ∈ ss) (lf : f < (tb ws).length) (e : tr (tb ws) f = .number v) (v0 : 0 ≤ v) (v1 : v < 10000) (mf : f = 0 ∨ ∃ i, i < j ∧ putAt ws i = some f) : LInv n ws lst a j (hs.set h f) ss (os ++ [.number h v]) := by
  refine I.hand hn dr lf (Nat.le_refl _) (fun b => ?_) I.wt I.X ⟨⟨?_, fun w e => (by cases e), fun _ _ e => (by cases e)⟩, fun y hy => by rw [List.mem_singleton.mp hy]; exact hn⟩ mf fun i p l l' => by omega
  · rw [e]; rfl
  · show (decide (0 ≤ v) && decide (v < 10000)) = true
    rw [decide_eq_true v0, decide_eq_true v1]; rfl
/-- a form fetched out of a slot -/
theorem LInv.fetchS (I : LInv n ws lst a j hs ss os) {h s : Nat} (hn : h < n) (dr : ¬ Due ws lst a (hs.getD h 0) ∨ hs.getD h 0 ∈ ss) (s60 : s < 60) : LInv n ws lst a j (hs.set h (ss.getD s 0)) ss (os ++ [.fetch h s]) := by
  have m : ss.getD s 0 ∈ ss := getD_mem (by rw [I.sl]; exact s60)
  refine I.hand hn dr (I.sb _ m) (Nat.le_refl _) (fun b => ?_) I.wt I.X ⟨⟨decide_eq_true s60, fun w e => (by cases e), fun _ _ e => (by cases e)⟩, fun y hy => by rw [List.mem_singleton.mp hy]; exact hn⟩ (I.ms _ m) fun i p l l' => by omega
  show (if b = bH h then (runTt t0 (os.map asW)).g (bS s) else _) = _
  rw [I.gs]
theorem rT_wt {W : Wo} (h : ws[j]? = some W) : (rT ws (j + 1)).wt = (tW (rT ws j).wt ((askB W).map (rT ws j).g) W).1 := by rw [rT_succ h]; rfl
theorem rT_X {W : Wo} (h : ws[j]? = some W) : (rT ws (j + 1)).X = if isO W = true then (rT ws j).X ++ [(kdW W, restW W, (askB W).map (rT ws j).g)] else (rT ws j).X := by rw [rT_succ h]; rfl
/-- told -/
theorem LInv.tell (I : LInv n ws lst a j hs ss os) {h : Nat} {b : Bx} (hW : ws[j]? = some (.tell b)) (hn : h < n) (e : hs.getD h 0 = (rA ws j).g b) : LInv n ws lst a (j + 1) hs ss (os ++ [.tell h]) := by
  have st : stepTt (runTt t0 (os.map asW)) (asW (.tell h)) = ⟨(runTt t0 (os.map asW)).g, (runTt t0 (os.map asW)).wt, (runTt t0 (os.map asW)).X ++ [(kdW (.tell b), [], [(runTt t0 (os.map asW)).g (bH h)])]⟩ := rfl
  have pn : putAt ws j = none := by unfold putAt pAt; rw [hW]; rfl
  refine ⟨I.hl, I.sl, I.hb, I.sb, fun k => by rw [run_snoc, st]; exact I.gh k, fun k => by rw [run_snoc, st]; exact I.gs k, ?_, ?_, fun o ho => ?_, fun f i l q d => ?_, I.ds, fun x hx => (I.mh x hx).imp id fun ⟨i, l, e⟩ => ⟨i, by omega, e⟩, fun x hx => (I.ms x hx).imp id fun ⟨i, l, e⟩ => ⟨i, by omega, e⟩⟩
  · rw [run_snoc, st, rT_wt hW]; exact I.wt
  · rw [run_snoc, st, rT_X hW]
    show (runTt t0 (os.map asW)).X ++ [(kdW (.tell b), [], [(runTt t0 (os.map asW)).g (bH h)])] = (rT ws j).X ++ [(kdW (.tell b), [], [(rT ws j).g b])]
    rw [I.X, I.gh, e, r_g]
  · rcases List.mem_append.mp ho with m | m
    · exact I.og o m
    · rw [List.mem_singleton.mp m]
      exact ⟨⟨rfl, fun w e => (by cases e), fun _ _ e => (by cases e)⟩, fun y hy => by rw [List.mem_singleton.mp hy]; exact hn⟩
  · by_cases z : i < j
    · exact I.av f i z q d
    · obtain rfl : i = j := by omega
      rw [pn] at q; cases q
theorem put_at {W : Wo} (h : ws[j]? = some W) : putAt ws j = (formB (rA ws j).ms (rA ws j).wt ((askB W).map (rA ws j).g) W).2.2 := by unfold putAt pAt; rw [h]; rfl
/-- the put form of the part, made by an order -/
theorem LInv.make (I : LInv n ws lst a j hs ss os) {h p : Nat} {o : Or} {W : Wo} (hW : ws[j]? = some W) (hp : putAt ws j = some p) (hn : h < n) (dr : ¬ Due ws lst a (hs.getD h 0) ∨ hs.getD h 0 ∈ ss)
    (bo : boxW (asW o) = bH h) (tw : tW (runTt t0 (os.map asW)).wt ((askB (asW o)).map (runTt t0 (os.map asW)).g) (asW o) = tW (rT ws j).wt ((askB W).map (rT ws j).g) W) (oX : (if isO (asW o) = true then [(kdW (asW o), restW (asW o), (askB (asW o)).map (runTt t0 (os.map asW)).g)] else []) = if isO W = true then [(kdW W, restW W, (askB W).map (rT ws j).g)] else [])
    (go : OrG o ∧ Hds n o) : LInv n ws lst a (j + 1) (hs.set h p) ss (os ++ [o]) := by
  obtain ⟨t1, t2⟩ := put_tr hW hp
  refine I.hand hn dr t2 (Nat.le_succ _) (fun b => ?_) ?_ ?_ go (.inr ⟨j, Nat.lt_succ_self _, hp⟩) fun i q l l' e d => ?_
  · show setT _ (boxW (asW o)) (tW _ _ (asW o)).2 b = _
    rw [tw, ← t1, bo]; rfl
  · show (tW _ _ (asW o)).1 = _
    rw [tw, rT_wt hW]
  · show (if isO (asW o) = true then (runTt t0 (os.map asW)).X ++ _ else (runTt t0 (os.map asW)).X) = _
    rw [rT_X hW, I.X]
    by_cases c : isO (asW o) = true
    · rw [if_pos c] at oX ⊢
      by_cases c' : isO W = true
      · rw [if_pos c'] at oX ⊢; rw [oX]
      · rw [if_neg c'] at oX; cases oX
    · rw [if_neg c] at oX ⊢
      by_cases c' : isO W = true
      · rw [if_pos c'] at oX; cases oX
      · rw [if_neg c']
  · obtain rfl : i = j := by omega
    rw [hp] at e; exact .inl (Option.some.inj e).symm
theorem LInv.take (I : LInv n ws lst a j hs ss os) {h p : Nat} {b : Bx} {s : Str} (hW : ws[j]? = some (.take b s)) (hp : putAt ws j = some p) (hn : h < n) (dr : ¬ Due ws lst a (hs.getD h 0) ∨ hs.getD h 0 ∈ ss) (ps : PoolOk s) : LInv n ws lst a (j + 1) (hs.set h p) ss (os ++ [.take h s]) :=
  I.make hW hp hn dr rfl (by show (_ + 1, some (FT.take (_ + 1))) = (_ + 1, some (FT.take (_ + 1))); rw [I.wt]) rfl ⟨⟨ps.n, asW_str fun x y e => by cases e; exact ps.s, fun x y e => by cases e; exact Nat.le_trans ps.l (by decide)⟩, fun y hy => by rw [List.mem_singleton.mp hy]; exact hn⟩
theorem LInv.ask (I : LInv n ws lst a j hs ss os) {h p : Nat} {b : Bx} (hW : ws[j]? = some (.ask b)) (hp : putAt ws j = some p) (hn : h < n) (dr : ¬ Due ws lst a (hs.getD h 0) ∨ hs.getD h 0 ∈ ss) : LInv n ws lst a (j + 1) (hs.set h p) ss (os ++ [.ask h]) :=
  I.make hW hp hn dr rfl (by show (_ + 1, some (FT.ask (_ + 1))) = (_ + 1, some (FT.ask (_ + 1))); rw [I.wt]) rfl ⟨⟨rfl, fun w e => (by cases e), fun _ _ e => (by cases e)⟩, fun y hy => by rw [List.mem_singleton.mp hy]; exact hn⟩
theorem LInv.opn (I : LInv n ws lst a j hs ss os) {h p h1 : Nat} {b c : Bx} (hW : ws[j]? = some (.opn b c)) (hp : putAt ws j = some p) (hn : h < n) (dr : ¬ Due ws lst a (hs.getD h 0) ∨ hs.getD h 0 ∈ ss) (n1 : h1 < n) (e1 : hs.getD h1 0 = (rA ws j).g c) : LInv n ws lst a (j + 1) (hs.set h p) ss (os ++ [.opn h h1]) := by
  refine I.make hW hp hn dr rfl ?_ rfl ⟨⟨rfl, fun w e => (by cases e), fun _ _ e => (by cases e)⟩, fun y hy => ?_⟩
  · show ((runTt t0 (os.map asW)).wt, some (FT.opn ((runTt t0 (os.map asW)).g (bH h1)))) = ((rT ws j).wt, some (FT.opn ((rT ws j).g c)))
    rw [I.wt, I.gh, e1, r_g]
  · simp only [handsO, List.mem_cons, List.not_mem_nil, or_false] at hy
    rcases hy with rfl | rfl
    · exact hn
    · exact n1
theorem LInv.mix (I : LInv n ws lst a j hs ss os) {h p h1 h2 : Nat} {b c d : Bx} (hW : ws[j]? = some (.mix b c d)) (hp : putAt ws j = some p) (hn : h < n) (dr : ¬ Due ws lst a (hs.getD h 0) ∨ hs.getD h 0 ∈ ss) (n1 : h1 < n) (e1 : hs.getD h1 0 = (rA ws j).g c) (n2 : h2 < n) (e2 : hs.getD h2 0 = (rA ws j).g d) : LInv n ws lst a (j + 1) (hs.set h p) ss (os ++ [.mix h h1 h2]) := by
  refine I.make hW hp hn dr rfl ?_ rfl ⟨⟨rfl, fun w e => (by cases e), fun _ _ e => (by cases e)⟩, fun y hy => ?_⟩
  · show ((runTt t0 (os.map asW)).wt, some (FT.mix ((runTt t0 (os.map asW)).g (bH h1)) ((runTt t0 (os.map asW)).g (bH h2)))) = ((rT ws j).wt, some (FT.mix ((rT ws j).g c) ((rT ws j).g d)))
    rw [I.wt, I.gh, I.gh, e1, e2, r_g, r_g]
  · simp only [handsO, List.mem_cons, List.not_mem_nil, or_false] at hy
    rcases hy with rfl | rfl | rfl
    · exact hn
    · exact n1
    · exact n2
/-- what is no order of a code: a copy, a number, a wipe -/
def isQ : Wo → Bool
  | .copy _ _ => true
  | .number _ _ => true
  | .wipe _ => true
  | _ => false
theorem LInv.quiet (I : LInv n ws lst a j hs ss os) {W : Wo} (hW : ws[j]? = some W) (hq : isQ W = true) : LInv n ws lst a (j + 1) hs ss os := by
  have e := put_at hW
  cases W with
  | copy b c =>
    refine I.skip (rT_wt hW) (rT_X hW) fun p hp d => ?_
    rw [hp] at e
    have ep : p = (rA ws j).g c := Option.some.inj e
    rcases g_put ws j c with z | ⟨i, l, z⟩
    · rw [ep, z] at d; exact absurd d due_zero
    · exact I.av p i l (by rw [ep]; exact z) d
  | number b v =>
    refine I.skip (rT_wt hW) (rT_X hW) fun p hp d => ?_
    obtain ⟨t1, _⟩ := put_tr hW hp
    exact absurd ⟨v, Option.some.inj t1⟩ d.1
  | wipe b =>
    refine I.skip (rT_wt hW) (rT_X hW) fun p hp d => ?_
    obtain ⟨t1, _⟩ := put_tr hW hp
    exact absurd ⟨0, Option.some.inj t1⟩ d.1
  | _ => cases hq
/-- a mix or an open that nothing asks for later, or that lies at hand -/
theorem LInv.idle (I : LInv n ws lst a j hs ss os) {W : Wo} (hW : ws[j]? = some W) (hw : tW (rT ws j).wt ((askB W).map (rT ws j).g) W = ((rT ws j).wt, (tW (rT ws j).wt ((askB W).map (rT ws j).g) W).2)) (ho : isO W = false) (nw : ∀ p, putAt ws j = some p → Due ws lst a p → p ∈ hs ∨ p ∈ ss) : LInv n ws lst a (j + 1) hs ss os :=
  I.skip (by rw [rT_wt hW, hw]) (by rw [rT_X hW, if_neg (by rw [ho]; exact Bool.false_ne_true)]) nw
/-! a slot is free -/
theorem nd_len {α : Type} [DecidableEq α] : ∀ (us D : List α), us.Nodup → (∀ a ∈ us, a ∈ D) → us.length ≤ D.length
  | [], _, _, _ => Nat.zero_le _
  | x :: r, D, h, s => by
    rw [List.nodup_cons] at h
    have h1 := nd_len r (D.erase x) h.2 fun y hy => (List.mem_erase_of_ne fun z => h.1 (by rw [← z]; exact hy)).mpr (s y (List.mem_cons_of_mem _ hy))
    have h2 := List.length_erase_of_mem (s x List.mem_cons_self)
    have h3 : 0 < D.length := List.length_pos_of_mem (s x List.mem_cons_self)
    rw [List.length_cons]; omega
theorem LInv.free (I : LInv n ws lst a j hs ss os) (l : j < 60) : ∃ s, s < 60 ∧ ¬ Due ws lst a (ss.getD s 0) := by
  refine Classical.byContradiction fun z => ?_
  have all : ∀ s, s < 60 → Due ws lst a (ss.getD s 0) := fun s hs => Classical.byContradiction fun q => z ⟨s, hs, q⟩
  have e1 : ((List.range 60).map fun s => ss.getD s 0).length ≤ ((List.range j).filterMap (putAt ws)).length := by
    refine nd_len _ _ ?_ fun f hf => ?_
    · refine List.pairwise_map.mpr (List.Pairwise.imp_of_mem (fun {s s'} h1 h2 ne e => ?_) List.nodup_range)
      exact ne (I.ds s s' (List.mem_range.mp h1) (List.mem_range.mp h2) e (all s (List.mem_range.mp h1)))
    · obtain ⟨s, hs, rfl⟩ := List.mem_map.mp hf
      have hs := List.mem_range.mp hs
      rcases I.ms _ (getD_mem (d := 0) (by rw [I.sl]; exact hs)) with e | ⟨i, li, e⟩
      · exact absurd (by rw [← e]; exact all s hs) (due_zero (ws := ws) (lst := lst) (a := a))
      · exact List.mem_filterMap.mpr ⟨i, List.mem_range.mpr li, e⟩
  have e2 := List.length_filterMap_le (putAt ws) (List.range j)
  rw [List.length_map, List.length_range] at e1
  rw [List.length_range] at e2
  omega
end
/-! the last times -/
structure LstOk (ws : List Wo) (lst : Nat → Option Nat) : Prop where
  tell : ∀ j b, ws[j]? = some (.tell b) → ∃ l, lst ((rA ws j).g b) = some l ∧ j ≤ l
  need : ∀ j W p l, ws[j]? = some W → putAt ws j = some p → lst p = some l → j < l → ∀ b ∈ askB W, ∃ l', lst ((rA ws j).g b) = some l' ∧ j ≤ l'
  here : ∀ j f, lst f = some j → ∃ W, ws[j]? = some W ∧ ∃ b ∈ askB W, f = (rA ws j).g b
section
variable {n : Nat} {ws : List Wo} {lst : Nat → Option Nat} {j : Nat} {hs ss : List Nat} {os : List Or}
theorem LInv.due_has {a : Nat} (I : LInv n ws lst a j hs ss os) {b : Bx} (d : ∃ l, lst ((rA ws j).g b) = some l ∧ a ≤ l) : NumF ws ((rA ws j).g b) ∨ (rA ws j).g b ∈ hs ∨ (rA ws j).g b ∈ ss := by
  by_cases q : NumF ws ((rA ws j).g b)
  · exact .inl q
  · rcases g_put ws j b with z | ⟨i, l, z⟩
    · exact absurd (by rw [z]; exact ⟨0, tr_zero (tbW ws)⟩) q
    · exact .inr (I.av _ i l z ⟨q, d⟩)
/-- what is asked for a form that is due stands at hand, or is a number -/
theorem LInv.need_has (I : LInv n ws lst j j hs ss os) (L : LstOk ws lst) {W : Wo} {p : Nat} (hW : ws[j]? = some W) (hm : (∃ b c d, W = .mix b c d) ∨ ∃ b c, W = .opn b c) (hp : putAt ws j = some p) (d : Due ws lst j p) : ∀ b ∈ askB W, NumF ws ((rA ws j).g b) ∨ (rA ws j).g b ∈ hs ∨ (rA ws j).g b ∈ ss := by
  obtain ⟨l, e, q⟩ := d.2
  have ne : l ≠ j := fun z => by
    rw [z] at e
    obtain ⟨W', hW', b, hb, eb⟩ := L.here j p e
    rw [hW] at hW'
    cases hW'
    obtain ⟨t1, t2⟩ := put_tr hW hp
    have g := r_g ws j b
    rw [← eb] at g
    rw [g] at t1
    have big : ∀ x y : FT, x ≠ .mix x y ∧ y ≠ .mix x y ∧ x ≠ .opn x := fun x y => by
      have sz : ∀ t : FT, 0 < sizeOf t := fun t => by cases t <;> simp <;> omega
      refine ⟨fun z => ?_, fun z => ?_, fun z => ?_⟩ <;> (have := congrArg sizeOf z; simp at this; try omega)
    rcases hm with ⟨b1, c1, d1, rfl⟩ | ⟨b1, c1, rfl⟩
    · have t1 : (rT ws j).g b = FT.mix ((rT ws j).g c1) ((rT ws j).g d1) := Option.some.inj t1
      simp only [askB, List.mem_cons, List.not_mem_nil, or_false] at hb
      rcases hb with rfl | rfl
      · exact (big _ _).1 t1
      · exact (big _ _).2.1 t1
    · have t1 : (rT ws j).g b = FT.opn ((rT ws j).g c1) := Option.some.inj t1
      simp only [askB, List.mem_cons, List.not_mem_nil, or_false] at hb
      rw [hb] at t1
      exact (big _ (.number 0)).2.2 t1
  exact fun b hb => I.due_has (L.need j W p l hW hp e (by omega) b hb)
theorem LInv.tell_has (I : LInv n ws lst j j hs ss os) (L : LstOk ws lst) {b : Bx} (hW : ws[j]? = some (.tell b)) : NumF ws ((rA ws j).g b) ∨ (rA ws j).g b ∈ hs ∨ (rA ws j).g b ∈ ss := I.due_has (L.tell j b hW)
end
end K48

set_option maxHeartbeats 4000000
namespace K48
open PySem PySem.Spec PyProof.Rows L2 Kk
/-! what keeps a worth, by trees -/
def kFT : FT → Bool
  | .take _ => true
  | .mix a b => kFT a || kFT b
  | _ => false
theorem kk_tr {ms : List Fo} (w : WF ms) : ∀ {i : Nat}, i < ms.length → kk ms i = kFT (tr ms i) := by
  have key : ∀ (n i : Nat), i < n → i < ms.length → kk ms i = kFT (tr ms i) := by
    intro n
    induction n with
    | zero => intro i h; omega
    | succ n ih =>
      intro i hn hi
      obtain ⟨m, hm⟩ : ∃ m, ms[i]? = some m := ⟨_, List.getElem?_eq_getElem hi⟩
      rw [kk_at w hm, tr_at w hm]
      have o := w.2 i m hm
      cases m with
      | mix a b =>
        have oa : a < i ∧ b < i := o
        show (kk ms a || kk ms b) = (kFT (tr ms a) || kFT (tr ms b))
        rw [ih a (by omega) (by omega), ih b (by omega) (by omega)]
      | _ => rfl
  exact fun {i} hi => key (i + 1) i (by omega) hi
theorem wipeT : ∀ {wh : List Nat} {t : Tt}, (runTt t ((wh.map Or.wipe).map asW)).X = t.X ∧ (∀ s, (runTt t ((wh.map Or.wipe).map asW)).g (bS s) = t.g (bS s)) ∧ ∀ h, (runTt t ((wh.map Or.wipe).map asW)).g (bH h) = if h ∈ wh then .number 0 else t.g (bH h)
  | [], t => ⟨rfl, fun _ => rfl, fun h => by rw [if_neg (by simp)]; rfl⟩
  | x :: r, t => by
    obtain ⟨h1, h2, h3⟩ := wipeT (wh := r) (t := stepTt t (asW (.wipe x)))
    refine ⟨h1, fun s => (h2 s).trans ?_, fun h => (h3 h).trans ?_⟩
    · show (if bS s = bH x then FT.number 0 else t.g (bS s)) = _
      rw [if_neg fun z => by rw [bSH] at z; exact z]
    · show (if h ∈ r then FT.number 0 else if bH h = bH x then FT.number 0 else t.g (bH h)) = _
      by_cases m : h ∈ r
      · rw [if_pos m, if_pos (List.mem_cons_of_mem _ m)]
      · rw [if_neg m]
        by_cases e : h = x
        · rw [if_pos (by rw [e]), if_pos (by rw [e]; exact List.mem_cons_self)]
        · rw [if_neg fun z => e (by rw [bHH] at z; exact z), if_neg fun z => (List.mem_cons.mp z).elim e m]
theorem cleanT : ∀ {wh : List Nat} {t : Tt}, (runTt t ((wh.map Or.clean).map asW)).X = t.X ∧ (∀ s, (runTt t ((wh.map Or.clean).map asW)).g (bH s) = t.g (bH s)) ∧ ∀ h, (runTt t ((wh.map Or.clean).map asW)).g (bS h) = if h ∈ wh then .number 0 else t.g (bS h)
  | [], t => ⟨rfl, fun _ => rfl, fun h => by rw [if_neg (by simp)]; rfl⟩
  | x :: r, t => by
    obtain ⟨h1, h2, h3⟩ := cleanT (wh := r) (t := stepTt t (asW (.clean x)))
    refine ⟨h1, fun s => (h2 s).trans ?_, fun h => (h3 h).trans ?_⟩
    · show (if bH s = bS x then FT.number 0 else t.g (bH s)) = _
      rw [if_neg fun z => by rw [bHS] at z; exact z]
    · show (if h ∈ r then FT.number 0 else if bS h = bS x then FT.number 0 else t.g (bS h)) = _
      by_cases m : h ∈ r
      · rw [if_pos m, if_pos (List.mem_cons_of_mem _ m)]
      · rw [if_neg m]
        by_cases e : h = x
        · rw [if_pos (by rw [e]), if_pos (by rw [e]; exact List.mem_cons_self)]
        · rw [if_neg fun z => e (by rw [bSS] at z; exact z), if_neg fun z => (List.mem_cons.mp z).elim e m]
/-- all parts done, what keeps a worth wiped: the code holds -/
theorem LInv.done {n : Nat} {ws : List Wo} {lst : Nat → Option Nat} {a : Nat} {hs ss : List Nat} {os : List Or} (I : LInv n ws lst a ws.length hs ss os) {wh cs : List Nat} (h1 : ∀ h, h < n → kk (tb ws) (hs.getD h 0) = true → h ∈ wh) (h2 : ∀ h ∈ wh, h < n) (c1 : ∀ s, s < 60 → kk (tb ws) (ss.getD s 0) = true → s ∈ cs) (c2 : ∀ s ∈ cs, s < 60) : LaidOk n ws (os ++ wh.map Or.wipe ++ cs.map Or.clean) := by
  obtain ⟨w1, w2, w3⟩ := wipeT (wh := wh) (t := runTt t0 (os.map asW))
  obtain ⟨v1, v2, v3⟩ := cleanT (wh := cs) (t := runTt (runTt t0 (os.map asW)) ((wh.map Or.wipe).map asW))
  have eT : runTt t0 ((os ++ wh.map Or.wipe ++ cs.map Or.clean).map asW) = runTt (runTt (runTt t0 (os.map asW)) ((wh.map Or.wipe).map asW)) ((cs.map Or.clean).map asW) := by
    rw [List.map_append, List.map_append, runTt_app, runTt_app]
  have F := trS_a0.run (ws := (os ++ wh.map Or.wipe ++ cs.map Or.clean).map asW)
  have kk0 : ∀ b, kA (runA a0 ((os ++ wh.map Or.wipe ++ cs.map Or.clean).map asW)) b = kFT ((runTt t0 ((os ++ wh.map Or.wipe ++ cs.map Or.clean).map asW)).g b) := fun b => by
    rw [← F.g b]; exact kk_tr F.ok.w (F.ok.v b)
  have z0 : kk (tb ws) 0 = false := kk_zero (tbW ws)
  have big : ∀ (l : List Nat) (i : Nat), l.length ≤ i → l.getD i 0 = 0 := fun l i h => by rw [List.getD_eq_getElem?_getD, List.getElem?_eq_none h]; rfl
  refine ⟨fun h => ?_, fun s => ?_, X_alike ?_, fun o ho => ?_, fun o ho => ?_⟩
  · rw [kk0, eT, v2, w3]
    by_cases m : h ∈ wh
    · rw [if_pos m]; rfl
    · rw [if_neg m, I.gh]
      by_cases l : h < n
      · have lf := I.hb _ (getD_mem (l := hs) (d := 0) (by rw [I.hl]; exact l))
        rw [← kk_tr (tbW ws) lf]
        cases q : kk (tb ws) (hs.getD h 0) with
        | false => rfl
        | true => exact absurd (h1 h l q) m
      · rw [big hs h (by rw [I.hl]; omega), tr_zero (tbW ws)]; rfl
  · rw [kk0, eT, v3]
    by_cases m : s ∈ cs
    · rw [if_pos m]; rfl
    · rw [if_neg m, w2, I.gs]
      by_cases l : s < 60
      · have lf := I.sb _ (getD_mem (l := ss) (d := 0) (by rw [I.sl]; exact l))
        rw [← kk_tr (tbW ws) lf]
        cases q : kk (tb ws) (ss.getD s 0) with
        | false => rfl
        | true => exact absurd (c1 s l q) m
      · rw [big ss s (by rw [I.sl]; omega), tr_zero (tbW ws)]; rfl
  · rw [eT, v1, w1, I.X]
    show (runTt t0 (ws.take ws.length)).X = _
    rw [List.take_length]
  all_goals
    rcases List.mem_append.mp ho with m | m
    · rcases List.mem_append.mp m with m | m
      · first | exact (I.og o m).1 | exact (I.og o m).2
      · obtain ⟨x, hx, rfl⟩ := List.mem_map.mp m
        first | exact wipe_good | exact fun y hy => by rw [List.mem_singleton.mp hy]; exact h2 x hx
    · obtain ⟨x, hx, rfl⟩ := List.mem_map.mp m
      first | exact clean_good (c2 x hx) | exact fun y hy => by cases hy
/-! the last times, as the program finds them: from the end -/
def lastS (ws : List Wo) (j : Nat) (L : Nat → Option Nat) : Nat → Option Nat := match pAt ws j with
  | some (W, asked, put) => if isTell W = true ∨ (put.bind L).isSome = true then fun f => match L f with
      | some l => some l
      | none => if f ∈ asked then some j else none
    else L
  | none => L
def lastD (ws : List Wo) : Nat → Nat → Option Nat
  | 0 => fun _ => none
  | k + 1 => lastS ws (ws.length - (k + 1)) (lastD ws k)
structure LkOk (ws : List Wo) (m : Nat) (lst : Nat → Option Nat) : Prop where
  tell : ∀ j b, m ≤ j → ws[j]? = some (.tell b) → ∃ l, lst ((rA ws j).g b) = some l ∧ j ≤ l
  need : ∀ j W p l, m ≤ j → ws[j]? = some W → putAt ws j = some p → lst p = some l → j < l → ∀ b ∈ askB W, ∃ l', lst ((rA ws j).g b) = some l' ∧ j ≤ l'
  here : ∀ j f, lst f = some j → m ≤ j ∧ ∃ W, ws[j]? = some W ∧ ∃ b ∈ askB W, f = (rA ws j).g b
theorem LkOk.step {ws : List Wo} {m : Nat} {L : Nat → Option Nat} (h : LkOk ws (m + 1) L) (hm : m < ws.length) : LkOk ws m (lastS ws m L) := by
  obtain ⟨W, hW⟩ : ∃ W, ws[m]? = some W := ⟨_, List.getElem?_eq_getElem hm⟩
  have pe : pAt ws m = some (W, (askB W).map (rA ws m).g, putAt ws m) := by
    unfold putAt pAt; rw [hW]; rfl
  have un : lastS ws m L = if isTell W = true ∨ ((putAt ws m).bind L).isSome = true then (fun f => match L f with | some l => some l | none => if f ∈ (askB W).map (rA ws m).g then some m else none) else L := by
    unfold lastS; rw [pe]
  have up : ∀ f l, L f = some l → lastS ws m L f = some l := fun f l e => by
    rw [un]; split
    · show (match L f with | some l => some l | none => _) = some l; rw [e]
    · exact e
  have dn : ∀ f l, lastS ws m L f = some l → L f = some l ∨ l = m ∧ f ∈ (askB W).map (rA ws m).g := fun f l e => by
    rw [un] at e
    split at e
    · have e : (match L f with | some l => some l | none => if f ∈ (askB W).map (rA ws m).g then some m else none) = some l := e
      cases q : L f with
      | some l' => rw [q] at e; exact .inl e
      | none =>
        rw [q] at e
        have e : (if f ∈ (askB W).map (rA ws m).g then some m else none) = some l := e
        split at e
        · rename_i mm; exact .inr ⟨(Option.some.inj e).symm, mm⟩
        · cases e
    · exact .inl e
  have act : (isTell W = true ∨ ((putAt ws m).bind L).isSome = true) → ∀ b ∈ askB W, ∃ l', lastS ws m L ((rA ws m).g b) = some l' ∧ m ≤ l' := fun a b hb => by
    cases q : L ((rA ws m).g b) with
    | some l' => exact ⟨l', up _ _ q, by have := (h.here l' _ q).1; omega⟩
    | none =>
      refine ⟨m, ?_, Nat.le_refl _⟩
      rw [un, if_pos a]
      show (match L ((rA ws m).g b) with | some l => some l | none => if (rA ws m).g b ∈ (askB W).map (rA ws m).g then some m else none) = some m
      rw [q]
      show (if (rA ws m).g b ∈ (askB W).map (rA ws m).g then some m else none) = some m
      rw [if_pos (List.mem_map.mpr ⟨b, hb, rfl⟩)]
  refine ⟨fun j b mj hj => ?_, fun j V p l mj hj hp hl jl b hb => ?_, fun j f e => ?_⟩
  · by_cases e : j = m
    · subst e
      rw [hW] at hj
      cases hj
      exact act (.inl rfl) b (by simp [askB])
    · obtain ⟨l, q, r⟩ := h.tell j b (by omega) hj
      exact ⟨l, up _ _ q, r⟩
  · by_cases e : j = m
    · subst e
      rw [hW] at hj
      cases hj
      rcases dn p l hl with q | ⟨q, _⟩
      · exact act (.inr (by rw [hp]; show (L p).isSome = true; rw [q]; rfl)) b hb
      · omega
    · rcases dn p l hl with q | ⟨q, _⟩
      · obtain ⟨l', q', r⟩ := h.need j V p l (by omega) hj hp q jl b hb
        exact ⟨l', up _ _ q', r⟩
      · omega
  · rcases dn f j e with q | ⟨rfl, q⟩
    · obtain ⟨q1, q2⟩ := h.here j f q
      exact ⟨by omega, q2⟩
    · obtain ⟨b, hb, z⟩ := List.mem_map.mp q
      exact ⟨Nat.le_refl _, W, hW, b, hb, z.symm⟩
theorem lastD_ok {ws : List Wo} : ∀ k, k ≤ ws.length → LkOk ws (ws.length - k) (lastD ws k)
  | 0, _ => ⟨fun j b mj hj => by
      have := (List.getElem?_eq_some_iff.mp hj).1
      omega, fun _ _ _ _ _ _ _ e => (by cases e), fun _ _ e => (by cases e)⟩
  | k + 1, hk => by
    have := lastD_ok (ws := ws) k (by omega)
    rw [show ws.length - k = ws.length - (k + 1) + 1 by omega] at this
    exact this.step (by omega)
theorem last_ok (ws : List Wo) : LstOk ws (lastD ws ws.length) := by
  have h := lastD_ok (ws := ws) ws.length (Nat.le_refl _)
  rw [Nat.sub_self] at h
  exact ⟨fun j b hj => h.tell j b (Nat.zero_le _) hj, fun j W p l hj hp hl jl => h.need j W p l (Nat.zero_le _) hj hp hl jl, fun j f e => (h.here j f e).2⟩
/-- the trace's parts are these -/
theorem parts_at (ws : List Wo) : ∀ j : Nat, (runT ⟨[.number 0], [], 0, []⟩ ws).ps[j]? = pAt ws j := by
  refine rev_ind (P := fun ws => ∀ j : Nat, (runT ⟨[.number 0], [], 0, []⟩ ws).ps[j]? = pAt ws j) (fun j => rfl) (fun l W ih j => ?_) ws
  have ab : ∀ ws : List Wo, absT (runT ⟨[.number 0], [], 0, []⟩ ws) = runA a0 ws := fun ws => abs_run _ _
  have lp : (runT ⟨[.number 0], [], 0, []⟩ l).ps.length = l.length := by rw [runT_len]; simp
  rw [runT_snoc]
  show ((runT ⟨[.number 0], [], 0, []⟩ l).ps ++ [_])[j]? = _
  unfold pAt
  by_cases h : j < l.length
  · rw [List.getElem?_append_left (by rw [lp]; exact h), ih j, List.getElem?_append_left h]
    show pAt l j = _
    unfold pAt rA
    rw [List.take_append_of_le_length (by omega)]
  · rw [List.getElem?_append_right (by rw [lp]; omega), List.getElem?_append_right (by omega), lp]
    cases e : j - l.length with
    | zero =>
      obtain rfl : j = l.length := by omega
      have a1 := ab l
      show some _ = some _
      unfold rA
      rw [List.take_left' rfl, ← a1]; rfl
    | succ i => rfl
end K48

set_option maxHeartbeats 8000000
set_option pp.maxSteps 400
set_option pp.deepTerms false
namespace K48
open PySem PySem.Spec PyProof.Rows L2 Kk RZ
abbrev s_last_asked : Stmt := topS 29
abbrev n_last_asked : List Str := ["parts", "last", "at", "word", "asked", "put", "form"]
theorem sc_last_asked : FnScope n_last_asked ["parts"] (defScope s_last_asked) := ⟨rfl, rfl, rfl, by decide +kernel, rfl, by decide +kernel, by decide +kernel⟩
/-- a dict of forms' last times -/
def DkL (kvs : List (L2.Key × V)) (L : Nat → Option Nat) : Prop := ∀ f : Nat, valV kvs (.inl (f : Int)) = (L f).map fun n : Nat => V.int n
theorem kd_t {W : Wo} (h : isTell W = true) : kdW W = Str.ofString "tell" := by cases W <;> first | rfl | cases h
theorem kd_n {W : Wo} (h : isTell W = false) : ¬ kdW W = Str.ofString "tell" := by
  cases W with
  | take b s => exact (show ¬ Str.ofString "take" = Str.ofString "tell" by decide +kernel)
  | ask b => exact (show ¬ Str.ofString "ask" = Str.ofString "tell" by decide +kernel)
  | number b n => exact (show ¬ Str.ofString "number" = Str.ofString "tell" by decide +kernel)
  | copy b c => exact (show ¬ Str.ofString "copy" = Str.ofString "tell" by decide +kernel)
  | mix b c d => exact (show ¬ Str.ofString "mix" = Str.ofString "tell" by decide +kernel)
  | opn b c => exact (show ¬ Str.ofString "open" = Str.ofString "tell" by decide +kernel)
  | wipe b => exact (show ¬ Str.ofString "wipe" = Str.ofString "tell" by decide +kernel)
  | tell b => cases h
section
variable {P : Program} {w : World} {K : PySem.W.Frag} {mg : Str → Option Value} {base : Heap}
def spLast (K : PySem.W.Frag) : Sp := fun vs H Q _ => ∃ (pt : Addr) (pvs : List V) (ps : List (Wo × List Nat × Option Nat)) (ws : List Wo), vs = [.ref pt] ∧ H pt = some (.lst pvs) ∧ P2 (PartH K H) pvs ps ∧ ps.length = ws.length ∧ (∀ j, ps[j]? = pAt ws j) ∧ ws.length ≤ 100 ∧
  ∀ H' d kvs, Ex [] H H' → H' d = some (.dK kvs) → DkL kvs (lastD ws ws.length) → kvs.length ≤ 2 * ws.length → H d = none → Q (.ref d) H'
theorem ok_last {f : Addr} {fd : FuncData} {k : Nat} (F : Fun K "last_asked" "last_asked" s_last_asked f fd) (m_reversed : mg "reversed" = none) (m_range : mg "range" = none) (m_len : mg "len" = none) : FnOk P w K mg base CX0 (k + 1) f fd ["parts"] (spLast K) := by
  refine F.ok sc_last_asked (fun vs H Q E h => ?_) (fun cdv A outer s H vs Q E hr h => ?_)
  · obtain ⟨pt, pvs, ps, ws, rfl, _⟩ := h; rfl
  · obtain ⟨pt, pvs, ps, ws, rfl, hP, hPP, hpl, hpa, hwl, q⟩ := h
    refine ⟨_, (pss_cons (ps_set (i := 1) sc_last_asked.nd rfl (.inl rfl) pe_dnewE)
      (pss_cons (ps_for PassesOwn.never rfl (pi_revR (by rfl) m_reversed (prg_1 (by rfl) m_range (pe_callB call_len_seq (by rfl) m_len PySem.boot_len (pa_cons (pv 0) pa_nil)))) (pg_name (i := 2) sc_last_asked.nd rfl (.inl rfl)) (pss_cons (ps_asg (pe_ix ix_list (pv 0) (pv 2) (fun _ _ => rfl)) (pg_tup rfl (pgs_cons (pg_name (i := 3) sc_last_asked.nd rfl (.inl rfl)) (pgs_cons (pg_name (i := 4) sc_last_asked.nd rfl (.inl rfl)) (pgs_cons (pg_name (i := 5) sc_last_asked.nd rfl (.inl rfl)) pgs_nil)))))
      (pss_one (ps_if (PW.pt (pw_or (pt_cmpR op_eq (pe_ix ix_tup (pv 3) pe_int (fun _ _ => rfl)) pe_str (nomark _)) (pw_or1 (pt_cmp (pc_dinN (hu_of hr) (pv 5) (pv 1)))))) (pss_one (ps_for PassesOwn.never rfl (pi_tup (pv 4)) (pg_name (i := 6) sc_last_asked.nd rfl (.inl rfl)) (pss_one (ps_expr (pe_dsetd (pv 1) (pv 6) (pv 2) ⟨rfl, rfl, rfl, rfl⟩))))) pss_nil))))
      (pss_one (ps_ret (pv 1))))), ?_⟩
    have lpv : pvs.length = ws.length := hPP.len.trans hpl
    refine ⟨true, fun d nd => ?_⟩
    obtain ⟨y1, h1⟩ := nw46 (o := .dK []) nd
    have pd : pt ≠ d := ne_of_none hP nd
    refine ⟨.ref pt, rfl, pt, pvs, rfl, .inl (.of (y1.lst hP)), pvs.length, rfl, by decide, by decide, by omega, by omega, ?_⟩
    refine for_it (walk_rangeC (lo := (0 : Int) + ((((pvs.length : Int) - 0).toNat : Nat) : Int) - 1) (c := -1) (n := ((pvs.length : Int) - 0).toNat)) (fun i σ H2 => ∃ (y2 y3 y4 y5 y6 : Option V) (kvs : List (L2.Key × V)), σ = [some (.ref pt), some (.ref d), y2, y3, y4, y5, y6] ∧ H2 d = some (.dK kvs) ∧ DkL kvs (lastD ws i) ∧ kvs.length ≤ 2 * i ∧ Ex [d] (upd H d (.dK [])) H2) ?_ ?_ ?_ ?_
    · exact ⟨_, _, _, _, _, [], rfl, h1, fun f => rfl, Nat.le_refl _, .refl⟩
    · exact fun _ _ _ _ _ => trivial
    · rintro i v σ0 H0 H2 hi ⟨y2, y3, y4, y5, y6, kvs, rfl, h2, k2, l2, x2⟩ ⟨rfl, rfl⟩
      have hi : i < ws.length := by omega
      obtain ⟨j, hj⟩ : ∃ j, j = ws.length - (i + 1) := ⟨_, rfl⟩
      have ej : (0 : Int) + ((((pvs.length : Int) - 0).toNat : Nat) : Int) - 1 + (i : Nat) * (-1) = (j : Nat) := by omega
      have eL : lastD ws (i + 1) = lastS ws j (lastD ws i) := by rw [hj]; rfl
      show gName 2 (V.int ((0 : Int) + ((((pvs.length : Int) - 0).toNat : Nat) : Int) - 1 + (i : Nat) * (-1))) _ _ _
      rw [ej]
      obtain ⟨v, hv⟩ : ∃ v, pvs[j]? = some v := ⟨_, List.getElem?_eq_getElem (by omega)⟩
      obtain ⟨p, hp1, hp2⟩ := hPP.getL hv
      have hp2 := (hp2.ex y1).ex x2
      have pa : pAt ws j = some p := by rw [← hpa]; exact hp1
      obtain ⟨t, wv, a, rfl, ht, ⟨wa, wxs, rfl, hws, hwx⟩, ha⟩ := id hp2
      obtain ⟨r, rfl, hk⟩ := hwx.kd
      have la : p.2.1.length ≤ 2 := by
        unfold pAt at pa
        obtain ⟨W, hW, rfl⟩ := Option.map_eq_some_iff.mp pa
        show ((askB W).map _).length ≤ 2
        cases W <;> simp [askB]
      have un : lastS ws j (lastD ws i) = if isTell p.1 = true ∨ (p.2.2.bind (lastD ws i)).isSome = true then (fun f => match lastD ws i f with | some l => some l | none => if f ∈ p.2.1 then some j else none) else lastD ws i := by
        unfold lastS; rw [pa]
        all_goals (obtain ⟨a1, a2, a3⟩ := p; rfl)
      generalize hL : lastD ws i = L at k2 un eL
      have hPt := x2.lst (y1.lst hP) (by simpa using pd)
      refine ⟨.ref pt, rfl, .int j, rfl, pt, pvs, _, _, rfl, rfl, .of hPt, atI_nat hv, t, _, rfl, .of ht, rfl, _, _, rfl, _, _, rfl, _, _, rfl, rfl, ?_⟩
      refine ⟨.ref wa, rfl, wa, _, 0, _, rfl, rfl, hws, at0, rfl, _, rfl, ?_⟩
      have cs : (isTell p.1 = true) ∨ (isTell p.1 = false ∧ ∃ n l, p.2.2 = some n ∧ L n = some l) ∨ (isTell p.1 = false ∧ ∃ n, p.2.2 = some n ∧ L n = none) ∨ (isTell p.1 = false ∧ p.2.2 = none) := by
        cases e1 : isTell p.1 with
        | true => exact .inl rfl
        | false =>
          cases e2 : p.2.2 with
          | none => exact .inr (.inr (.inr ⟨rfl, rfl⟩))
          | some n =>
            cases e3 : L n with
            | none => exact .inr (.inr (.inl ⟨rfl, n, rfl, e3⟩))
            | some l => exact .inr (.inl ⟨rfl, n, l, rfl, e3⟩)
      have stop : ¬ (isTell p.1 = true ∨ (p.2.2.bind L).isSome = true) → ∃ (z2 z3 z4 z5 z6 : Option V) (kvs' : List (L2.Key × V)), [some (V.ref pt), some (.ref d), some (.int j), some (.ref wa), some (.ref a), some (optV p.2.2), y6] = [some (.ref pt), some (.ref d), z2, z3, z4, z5, z6] ∧ H2 d = some (.dK kvs') ∧ DkL kvs' (lastD ws (i + 1)) ∧ kvs'.length ≤ 2 * (i + 1) ∧ Ex [d] (upd H d (.dK [])) H2 := fun n => ⟨_, _, _, _, _, kvs, rfl, h2, by rw [eL, un, if_neg n]; exact k2, by omega, x2⟩
      have no1 : isTell p.1 = false → ¬ decide (V.str (kdW p.1) = V.str (Str.ofString "tell")) = true := fun h z => kd_n h (V.str.inj (of_decide_eq_true z))
      have ye1 : isTell p.1 = true → decide (V.str (kdW p.1) = V.str (Str.ofString "tell")) = true := fun h => decide_eq_true (by rw [kd_t h])
      have act : isTell p.1 = true ∨ (isTell p.1 = false ∧ ∃ n l, p.2.2 = some n ∧ L n = some l) → isTell p.1 = true ∨ (p.2.2.bind L).isSome = true := fun h => h.imp id fun ⟨_, n, l, e1, e2⟩ => by rw [e1]; show (L n).isSome = true; rw [e2]; rfl
      rcases cs with cs | cs | cs | cs
      case' inl =>
        have ac := act (.inl cs)
        refine ite2 (fun b => ?_) fun b => absurd (ye1 cs) b
      case' inr.inl =>
        have ac := act (.inr cs)
        obtain ⟨nt, n, l, e1, e2⟩ := cs
        rw [e1]
        refine ite2 (fun b => absurd b (no1 nt)) fun b => ?_
        refine ⟨.int n, rfl, .ref d, rfl, .inl ⟨d, _, rfl, DGet.k (k := .inl (n : Int)) h2, _, rfl, ?_⟩⟩
        rw [k2 n, e2]
      case inr.inr.inl =>
        obtain ⟨nt, n, e1, e2⟩ := cs
        have sp := stop (by rw [nt, e1]; show ¬ (false = true ∨ (L n).isSome = true); rw [e2]; simp)
        rw [e1] at sp ⊢
        refine ite2 (fun b => absurd b (no1 nt)) fun b => ?_
        refine ⟨.int n, rfl, .ref d, rfl, .inl ⟨d, _, rfl, DGet.k (k := .inl (n : Int)) h2, _, rfl, ?_⟩⟩
        rw [k2 n, e2]
        exact iteF sp
      case inr.inr.inr =>
        obtain ⟨nt, e1⟩ := cs
        have sp := stop (by rw [nt, e1]; simp)
        rw [e1] at sp ⊢
        refine ite2 (fun b => absurd b (no1 nt)) fun b => ?_
        exact ⟨.non, rfl, .ref d, rfl, .inr ⟨d, kvs, rfl, rfl, .of h2, _, rfl, iteF sp⟩⟩
      all_goals
        refine iteT ⟨.ref a, rfl, a, rfl, ⟨_, ha⟩, ?_⟩
        refine for_it (walk_tup (K := K) (a := a) (xs := p.2.1.map fun n : Nat => V.int n)) (fun t' σ H3 => ∃ (z5 z6 : Option V) (kvs' : List (L2.Key × V)), σ = [some (.ref pt), some (.ref d), some (.int j), some (.ref wa), some (.ref a), z5, z6] ∧ H3 d = some (.dK kvs') ∧ (∀ f : Nat, valV kvs' (.inl (f : Int)) = (match L f with | some l => some (V.int (l : Nat)) | none => if f ∈ p.2.1.take t' then some (V.int (j : Nat)) else none)) ∧ kvs'.length ≤ 2 * i + t' ∧ Ex [d] H2 H3) ?_ ?_ ?_ ?_
        · refine ⟨_, _, kvs, rfl, h2, fun f => ?_, by omega, .refl⟩
          rw [k2 f]
          cases L f with
          | none => simp
          | some l => rfl
        · rintro t' σ H3 _ ⟨_, _, _, _, _, _, _, x3⟩
          exact x3.seqT ha
        · rintro t' v9 σ0 H0 H3 ht' ⟨z5, z6, kvs', rfl, h3, k3, l3, x3⟩ ⟨rfl, hx⟩
          rw [List.getElem?_map] at hx
          obtain ⟨fm, hfm, rfl⟩ := Option.map_eq_some_iff.mp hx
          have tk : p.2.1.take (t' + 1) = p.2.1.take t' ++ [fm] := by rw [List.take_add_one, hfm]; rfl
          have lt : t' < 2 := Nat.lt_of_lt_of_le (List.getElem?_eq_some_iff.mp hfm).1 la
          refine ⟨.ref d, rfl, d, rfl, .inl ⟨_, .of h3⟩, .int fm, rfl, .int j, rfl, kvs', .inl (fm : Int), h3, rfl, Nat.lt_of_lt_of_le (show kvs'.length < 300 by omega) (by decide), fun v e => ?_, fun e => ?_⟩
          · refine ⟨_, _, kvs', rfl, h3, fun f => ?_, by omega, x3⟩
            rw [k3 f, tk]
            cases el : L f with
            | some l => rfl
            | none =>
              show (if f ∈ p.2.1.take t' then _ else none) = if f ∈ p.2.1.take t' ++ [fm] then _ else none
              by_cases m : f ∈ p.2.1.take t'
              · rw [if_pos m, if_pos (List.mem_append_left _ m)]
              · rw [if_neg m, if_neg fun z => (List.mem_append.mp z).elim m fun z => ?_]
                rw [List.mem_singleton.mp z] at el m
                rw [k3 fm, el] at e
                have e : (if fm ∈ p.2.1.take t' then some (V.int (j : Nat)) else none) = some v := e
                rw [if_neg m] at e; cases e
          · have xp : Ex [d] H3 (upd H3 d (.dK (putK kvs' (.inl (fm : Int)) (.int j)))) := .put h3 (fun _ z => by cases z) (by simp)
            have lk := length_putK kvs' (.inl (fm : Int)) (V.int j)
            refine ⟨_, _, _, rfl, upd_same, fun f => ?_, by omega, x3.trans xp⟩
            rw [valV_put, k3 f, tk]
            rw [k3 fm] at e
            by_cases q : fm = f
            · rw [q] at e ⊢
              rw [if_pos rfl]
              cases el : L f with
              | some l => rw [el] at e; cases e
              | none => show _ = if f ∈ p.2.1.take t' ++ [f] then _ else none; rw [if_pos (by simp)]
            · rw [if_neg fun z => q (by have := Sum.inl.inj z; omega)]
              cases el : L f with
              | some l => rfl
              | none =>
                show (if f ∈ p.2.1.take t' then _ else none) = if f ∈ p.2.1.take t' ++ [fm] then _ else none
                by_cases m : f ∈ p.2.1.take t'
                · rw [if_pos m, if_pos (List.mem_append_left _ m)]
                · rw [if_neg m, if_neg fun z => (List.mem_append.mp z).elim m fun z => q (List.mem_singleton.mp z).symm]
        · rintro σ H3 ⟨z5, z6, kvs', rfl, h3, k3, l3, x3⟩
          refine ⟨_, _, _, _, _, kvs', rfl, h3, fun f => ?_, by rw [List.length_map] at l3; omega, x2.trans x3⟩
          rw [List.length_map] at k3
          rw [k3 f, List.take_length, eL, un, if_pos ac]
          cases el : L f with
          | some l => rfl
          | none =>
            show (if f ∈ p.2.1 then some (V.int (j : Nat)) else none) = Option.map (fun n : Nat => V.int n) (if f ∈ p.2.1 then some j else none)
            by_cases m : f ∈ p.2.1
            · rw [if_pos m, if_pos m]; rfl
            · rw [if_neg m, if_neg m]; rfl
    · rintro σ H2 ⟨y2, y3, y4, y5, y6, kvs, rfl, h2, k2, l2, x2⟩
      have e : ((pvs.length : Int) - 0).toNat = ws.length := by omega
      rw [e] at k2 l2
      exact ⟨.ref d, rfl, q H2 d kvs (Ex.own nd y1 x2) h2 k2 l2 nd⟩
end
end K48

set_option maxHeartbeats 8000000
set_option pp.maxSteps 400
set_option pp.deepTerms false
namespace K48
open PySem PySem.Spec PyProof.Rows L2 Kk RZ
/-! class Laying -/
abbrev s_is_number : Stmt := inClass (topS 30) 1
abbrev s_is_due : Stmt := inClass (topS 30) 2
abbrev s_has : Stmt := inClass (topS 30) 8
theorem sc_is_number : FnScope ["self", "form"] ["self", "form"] (defScope s_is_number) := ⟨rfl, rfl, rfl, by decide +kernel, rfl, by decide +kernel, by decide +kernel⟩
theorem sc_is_due : FnScope ["self", "form", "at"] ["self", "form", "at"] (defScope s_is_due) := ⟨rfl, rfl, rfl, by decide +kernel, rfl, by decide +kernel, by decide +kernel⟩
theorem sc_has : FnScope ["self", "form"] ["self", "form"] (defScope s_has) := ⟨rfl, rfl, rfl, by decide +kernel, rfl, by decide +kernel, by decide +kernel⟩
structure TL (K : PySem.W.Frag) (mg : Str → Option Value) (CL : Addr) : Prop where
  cl : Cls K CL
  n0 : NoAttr K CL "forms"
  n1 : NoAttr K CL "last"
  n2 : NoAttr K CL "hands"
  n3 : NoAttr K CL "slots"
  n4 : NoAttr K CL "orders"
  mgC : mg "Laying" = some (.ref CL)
/-- a laying, as it stands -/
def LyI (CL : Addr) (H : Hp) (ly fm ld hA sA oA : Addr) : Prop := ∃ dx fs, H ly = some (.ins CL dx fs) ∧ fs.lookup ("forms" : Str) = some (.ref fm) ∧ fs.lookup ("last" : Str) = some (.ref ld) ∧ fs.lookup ("hands" : Str) = some (.ref hA) ∧ fs.lookup ("slots" : Str) = some (.ref sA) ∧ fs.lookup ("orders" : Str) = some (.ref oA) ∧ fs.lookup ("is_number" : Str) = none ∧ fs.lookup ("is_due" : Str) = none ∧ fs.lookup ("lay" : Str) = none ∧ fs.lookup ("free_hand" : Str) = none ∧ fs.lookup ("fetch" : Str) = none ∧ fs.lookup ("hands_with" : Str) = none ∧ fs.lookup ("do" : Str) = none ∧ fs.lookup ("has" : Str) = none ∧ fs.lookup ("put_in_hand" : Str) = none ∧ fs.lookup ("wipe_all" : Str) = none ∧ fs.length ≤ 10
theorem LyI.ex {CL : Addr} {H H' : Hp} {ly fm ld hA sA oA : Addr} {xs : List Addr} (h : LyI CL H ly fm ld hA sA oA) (e : Ex xs H H') (m : ly ∉ xs) : LyI CL H' ly fm ld hA sA oA := by
  obtain ⟨dx, fs, h1, r⟩ := h
  exact ⟨dx, fs, e.a ly _ m h1 (fun _ z => by cases z), r⟩
structure LyH (K : PySem.W.Frag) (CM CL : Addr) (H : Hp) (ly fm ld hA sA oA mk kn kp : Addr) (ws : List Wo) (lst : Nat → Option Nat) (hs ss : List Nat) (os : List Or) : Prop where
  i : LyI CL H ly fm ld hA sA oA
  f : FmH CM H fm mk kn kp (tb ws)
  d : ∃ kvs, H ld = some (.dK kvs) ∧ DkL kvs lst
  h : H hA = some (.lst (hs.map fun n : Nat => V.int n))
  s : H sA = some (.lst (ss.map fun n : Nat => V.int n))
  o : ∃ us, H oA = some (.lst us) ∧ P2 (OrH K H) us os
  n : [ly, fm, ld, hA, sA, oA, mk, kn, kp].Nodup
def isNB (ms : List Fo) (f : Nat) : Bool := match ms[f]? with
  | some (.number _) => true
  | _ => false
theorem isNB_iff {ws : List Wo} {f : Nat} (l : f < (tb ws).length) : isNB (tb ws) f = true ↔ NumF ws f := by
  obtain ⟨m, hm⟩ : ∃ m, (tb ws)[f]? = some m := ⟨_, List.getElem?_eq_getElem l⟩
  unfold isNB NumF
  rw [hm, tr_at (tbW ws) hm]
  cases m with
  | number n => exact ⟨fun _ => ⟨n, rfl⟩, fun _ => rfl⟩
  | _ => exact ⟨fun h => (by cases h), fun ⟨_, h⟩ => (by cases h)⟩
def dueB (ms : List Fo) (lst : Nat → Option Nat) (a f : Nat) : Bool := !isNB ms f && (match lst f with
  | some l => decide (a ≤ l)
  | none => false)
theorem dueB_iff {ws : List Wo} {lst : Nat → Option Nat} {a f : Nat} (l : f < (tb ws).length) : dueB (tb ws) lst a f = true ↔ Due ws lst a f := by
  unfold dueB Due
  rw [Bool.and_eq_true_iff, Bool.not_eq_true', ← isNB_iff l]
  constructor
  · rintro ⟨h1, h2⟩
    refine ⟨by rw [h1]; exact Bool.false_ne_true, ?_⟩
    cases e : lst f with
    | none => rw [e] at h2; cases h2
    | some x => rw [e] at h2; exact ⟨x, rfl, of_decide_eq_true h2⟩
  · rintro ⟨h1, x, e, h2⟩
    refine ⟨by cases q : isNB (tb ws) f with | false => rfl | true => exact absurd q h1, ?_⟩
    rw [e]; exact decide_eq_true h2
section
variable {P : Program} {w : World} {K : PySem.W.Frag} {mg : Str → Option Value} {base : Heap}
def spIsNum (CM CL : Addr) : Sp := fun vs H Q _ => ∃ (ly fm ld hA sA oA mk kn kp : Addr) (ms : List Fo) (f : Nat), vs = [.ref ly, .int f] ∧ LyI CL H ly fm ld hA sA oA ∧ FmH CM H fm mk kn kp ms ∧ f < ms.length ∧ Q (.bl (isNB ms f)) H
theorem ok_isnum {f CM CL : Addr} {fd : FuncData} {k : Nat} (F : Fun K "is_number" "Laying.is_number" s_is_number f fd) (T : TL K mg CL) (TMk : TM K mg CM) : FnOk P w K mg base CX0 (k + 1) f fd ["self", "form"] (spIsNum CM CL) := by
  refine F.ok sc_is_number (fun vs H Q E h => ?_) (fun cdv A outer s H vs Q E hr h => ?_)
  · obtain ⟨ly, fm, ld, hA, sA, oA, mk, kn, kp, ms, f, rfl, _⟩ := h; rfl
  · obtain ⟨ly, fm, ld, hA, sA, oA, mk, kn, kp, ms, f, rfl, hI, hF, lf, q⟩ := h
    refine ⟨_, (pss_one (ps_ret (pe_cmpR op_eq (pe_ix ix_tup (pe_ix ix_list (pe_fld (pe_fld (pv 0) rfl) rfl) (pv 1) (fun _ _ => rfl)) pe_int (fun _ _ => rfl)) pe_str (nomark _)))), ?_⟩
    obtain ⟨dx, fs, h1, h2, _⟩ := hI
    obtain ⟨⟨dx', fs', g1, g2, _⟩, ⟨vs, g3, g4⟩, _⟩ := hF
    obtain ⟨v, hv⟩ : ∃ v, vs[f]? = some v := ⟨_, List.getElem?_eq_getElem (by rw [g4.len]; exact lf)⟩
    obtain ⟨m, hm, t, rfl, ht⟩ := g4.getL hv
    unfold isNB at q
    rw [hm] at q
    cases m with
    | number n => exact ⟨.ref ly, rfl, ly, CL, dx, fs, .ref fm, rfl, h1, T.cl, T.n0, h2, fm, CM, dx', fs', .ref mk, rfl, g1, TMk.cl, TMk.n0, g2, .int f, rfl, mk, vs, f, _, rfl, rfl, .of g3, atI_nat hv, t, _, 0, _, rfl, rfl, .of ht, at0, rfl, by show Q (.bl (decide (V.str (Str.ofString "number") = V.str (Str.ofString "number")))) H; rw [decide_eq_true (show V.str (Str.ofString "number") = V.str (Str.ofString "number") from rfl)]; exact q⟩
    | take n => exact ⟨.ref ly, rfl, ly, CL, dx, fs, .ref fm, rfl, h1, T.cl, T.n0, h2, fm, CM, dx', fs', .ref mk, rfl, g1, TMk.cl, TMk.n0, g2, .int f, rfl, mk, vs, f, _, rfl, rfl, .of g3, atI_nat hv, t, _, 0, _, rfl, rfl, .of ht, at0, rfl, by show Q (.bl (decide (V.str (Str.ofString "take") = V.str (Str.ofString "number")))) H; rw [decide_eq_false (show ¬ V.str (Str.ofString "take") = V.str (Str.ofString "number") by decide +kernel)]; exact q⟩
    | ask n => exact ⟨.ref ly, rfl, ly, CL, dx, fs, .ref fm, rfl, h1, T.cl, T.n0, h2, fm, CM, dx', fs', .ref mk, rfl, g1, TMk.cl, TMk.n0, g2, .int f, rfl, mk, vs, f, _, rfl, rfl, .of g3, atI_nat hv, t, _, 0, _, rfl, rfl, .of ht, at0, rfl, by show Q (.bl (decide (V.str (Str.ofString "ask") = V.str (Str.ofString "number")))) H; rw [decide_eq_false (show ¬ V.str (Str.ofString "ask") = V.str (Str.ofString "number") by decide +kernel)]; exact q⟩
    | mix i j => exact ⟨.ref ly, rfl, ly, CL, dx, fs, .ref fm, rfl, h1, T.cl, T.n0, h2, fm, CM, dx', fs', .ref mk, rfl, g1, TMk.cl, TMk.n0, g2, .int f, rfl, mk, vs, f, _, rfl, rfl, .of g3, atI_nat hv, t, _, 0, _, rfl, rfl, .of ht, at0, rfl, by show Q (.bl (decide (V.str (Str.ofString "mix") = V.str (Str.ofString "number")))) H; rw [decide_eq_false (show ¬ V.str (Str.ofString "mix") = V.str (Str.ofString "number") by decide +kernel)]; exact q⟩
    | opn i => exact ⟨.ref ly, rfl, ly, CL, dx, fs, .ref fm, rfl, h1, T.cl, T.n0, h2, fm, CM, dx', fs', .ref mk, rfl, g1, TMk.cl, TMk.n0, g2, .int f, rfl, mk, vs, f, _, rfl, rfl, .of g3, atI_nat hv, t, _, 0, _, rfl, rfl, .of ht, at0, rfl, by show Q (.bl (decide (V.str (Str.ofString "open") = V.str (Str.ofString "number")))) H; rw [decide_eq_false (show ¬ V.str (Str.ofString "open") = V.str (Str.ofString "number") by decide +kernel)]; exact q⟩
def spHas (CL : Addr) : Sp := fun vs H Q _ => ∃ (ly fm ld hA sA oA : Addr) (hs ss : List Nat) (f : Nat), vs = [.ref ly, .int f] ∧ LyI CL H ly fm ld hA sA oA ∧ H hA = some (.lst (hs.map fun n : Nat => V.int n)) ∧ H sA = some (.lst (ss.map fun n : Nat => V.int n)) ∧ Q (.bl (decide (f ∈ hs ∨ f ∈ ss))) H
theorem inV_int {f : Nat} : ∀ {l : List Nat}, inV (V.int f) (l.map fun n : Nat => V.int n) = decide (f ∈ l)
  | [] => by simp [inV]
  | a :: r => by
    have ih := inV_int (f := f) (l := r)
    unfold inV at ih ⊢
    simp only [List.map_cons, List.any_cons, ih]
    by_cases e : f = a
    · subst e; simp [eqV]
    · have : ¬ (V.int (f : Int) = V.int (a : Int)) := fun z => e (by have := V.int.inj z; omega)
      have t2 : ¬ (V.int (a : Int) = V.int (f : Int)) := fun z => this z.symm
      have e2 : ¬ a = f := fun z => e z.symm
      simp [e, this, t2, eqV, e2]
      intro z; omega
theorem ok_has {f CL : Addr} {fd : FuncData} {k : Nat} (F : Fun K "has" "Laying.has" s_has f fd) (T : TL K mg CL) : FnOk P w K mg base CX0 (k + 1) f fd ["self", "form"] (spHas CL) := by
  refine F.ok sc_has (fun vs H Q E h => ?_) (fun cdv A outer s H vs Q E hr h => ?_)
  · obtain ⟨ly, fm, ld, hA, sA, oA, hs, ss, f, rfl, _⟩ := h; rfl
  · obtain ⟨ly, fm, ld, hA, sA, oA, hs, ss, f, rfl, hI, hh, hs', q⟩ := h
    refine ⟨_, (pss_one (ps_ret (pe_or (pe_cmpR op_in_seq (pv 1) (pe_fld (pv 0) rfl) rfl) (pe_one (pe_cmpR op_in_seq (pv 1) (pe_fld (pv 0) rfl) rfl))))), ?_⟩
    obtain ⟨dx, fs, h1, h2, h3, h4, h5, _⟩ := hI
    have fl : ∀ l : List Nat, ((l.map fun n : Nat => V.int n).all flatV) = true := fun l => by rw [List.all_eq_true]; intro x hx; obtain ⟨n, _, rfl⟩ := List.mem_map.mp hx; rfl
    refine ⟨.int f, rfl, .ref ly, rfl, ly, CL, dx, fs, .ref hA, rfl, h1, T.cl, T.n2, h4, hA, _, rfl, .inl (.of hh), rfl, fl hs, ?_⟩
    refine ⟨_, rfl, ?_⟩
    show if inV (V.int f) (hs.map fun n : Nat => V.int n) = true then _ else _
    rw [inV_int]
    by_cases m : f ∈ hs
    · rw [decide_eq_true (Or.inl m)] at q
      rw [decide_eq_true m]; exact iteT q
    · rw [decide_eq_false m]
      refine iteF ⟨.int f, rfl, .ref ly, rfl, ly, CL, dx, fs, .ref sA, rfl, h1, T.cl, T.n3, h5, sA, _, rfl, .inl (.of hs'), rfl, fl ss, ?_⟩
      show Q (.bl (inV (V.int f) (ss.map fun n : Nat => V.int n))) H
      rw [inV_int]
      by_cases m' : f ∈ ss
      · rw [decide_eq_true (Or.inr m')] at q
        rw [decide_eq_true m']; exact q
      · rw [decide_eq_false (fun z => z.elim m m')] at q
        rw [decide_eq_false m']; exact q
def spDue (K : PySem.W.Frag) (CM CL : Addr) : Sp := fun vs H Q _ => ∃ (ly fm ld hA sA oA mk kn kp : Addr) (ms : List Fo) (lst : Nat → Option Nat) (kvs : List (L2.Key × V)) (f a : Nat), vs = [.ref ly, .int f, .int a] ∧ LyI CL H ly fm ld hA sA oA ∧ FmH CM H fm mk kn kp ms ∧ f < ms.length ∧ H ld = some (.dK kvs) ∧ DkL kvs lst ∧ Q (.bl (dueB ms lst a f)) H
theorem ok_due {f f1 CM CL : Addr} {fd fd1 : FuncData} {k : Nat} (F : Fun K "is_due" "Laying.is_due" s_is_due f fd) (T : TL K mg CL) (GN : FnOk P w K mg base CX0 k f1 fd1 ["self", "form"] (spIsNum CM CL)) (mN : Meth K CL "is_number" f1) (bN : Binds K fd1 ["self", "form"] []) : FnOk P w K mg base CX0 (k + 1) f fd ["self", "form", "at"] (spDue K CM CL) := by
  refine F.ok sc_is_due (fun vs H Q E h => ?_) (fun cdv A outer s H vs Q E hr h => ?_)
  · obtain ⟨ly, fm, ld, hA, sA, oA, mk, kn, kp, ms, lst, kvs, f, a, rfl, _⟩ := h; rfl
  · obtain ⟨ly, fm, ld, hA, sA, oA, mk, kn, kp, ms, lst, kvs, f, a, rfl, hI, hF, lf, hd, hk, q⟩ := h
    refine ⟨_, (pss_one (ps_ret (pe_and (pe_not (pe_meth (pv 0) T.cl mN GN hr bN .nil pass0 (pa_cons (pv 1) pa_nil))) (pe_one (pe_cmpR op_ge (pe_dget2 (hu_of hr) (pe_fld (pv 0) rfl) (pv 1) (pe_un un_neg pe_int) ⟨rfl, rfl, rfl, rfl⟩) (pv 2) (nomark _)))))), ?_⟩
    obtain ⟨dx, fs, h1, h2, h3, h4, h5, h6, m1, m2, r⟩ := id hI
    refine ⟨.ref ly, rfl, ly, dx, fs, rfl, h1, m1, .int f, rfl, ly, fm, ld, hA, sA, oA, mk, kn, kp, ms, f, rfl, hI, hF, lf, ?_⟩
    unfold dueB at q
    cases e1 : isNB ms f with
    | true =>
      rw [e1] at q
      exact ⟨true, rfl, false, rfl, iteF q⟩
    | false =>
      rw [e1] at q
      have g := DGet.k (k := .inl (f : Int)) hd
      rw [hk f] at g
      refine ⟨false, rfl, true, rfl, iteT ?_⟩
      cases e2 : lst f with
      | none =>
        rw [e2] at q g
        refine ⟨.ref ly, rfl, ly, CL, dx, fs, .ref ld, rfl, h1, T.cl, T.n1, h3, ld, rfl, .inl ⟨_, .of hd⟩, .int f, rfl, 1, rfl, none, g, .int a, rfl, -1, a, rfl, rfl, ?_⟩
        show Q (.bl (decide ((a : Int) ≤ -1))) H
        rw [decide_eq_false (by omega)]; exact q
      | some l =>
        rw [e2] at q g
        refine ⟨.ref ly, rfl, ly, CL, dx, fs, .ref ld, rfl, h1, T.cl, T.n1, h3, ld, rfl, .inl ⟨_, .of hd⟩, .int f, rfl, 1, rfl, some (.int l), g, .int a, rfl, l, a, rfl, rfl, ?_⟩
        show Q (.bl (decide ((a : Int) ≤ (l : Int)))) H
        rw [show decide ((a : Int) ≤ (l : Int)) = decide (a ≤ l) from decide_eq_decide.mpr (by omega)]; exact q
end
end K48

set_option maxHeartbeats 8000000
set_option pp.maxSteps 400
set_option pp.deepTerms false
namespace K48
open PySem PySem.Spec PyProof.Rows L2 Kk RZ
abbrev s_lay : Stmt := inClass (topS 30) 3
abbrev n_lay : List Str := ["self", "hand", "at", "free", "slot", "form"]
theorem sc_lay : FnScope n_lay ["self", "hand", "at"] (defScope s_lay) := ⟨rfl, rfl, rfl, by decide +kernel, rfl, by decide +kernel, by decide +kernel⟩
/-- a statement that is never come to -/
theorem ps_dead {X : Cx} {st : Stmt} : PS X st (fun _ _ _ => False) := ⟨fun pins s σ H D I h => h.elim⟩
theorem LyH.mono {K : PySem.W.Frag} {CM CL : Addr} {H H' : Hp} {ly fm ld hA sA oA mk kn kp : Addr} {ws : List Wo} {lst : Nat → Option Nat} {hs ss : List Nat} {os : List Or} (h : LyH K CM CL H ly fm ld hA sA oA mk kn kp ws lst hs ss os) (e : Ex [] H H') : LyH K CM CL H' ly fm ld hA sA oA mk kn kp ws lst hs ss os := by
  obtain ⟨h1, h2, ⟨kvs, h3, h4⟩, h5, h6, ⟨us, h7, h8⟩, h9⟩ := h
  exact ⟨h1.ex e (by simp), h2.nil e, ⟨kvs, e.a ld _ (by simp) h3 (fun _ z => by cases z), h4⟩, e.lst h5, e.lst h6, ⟨us, e.lst h7, h8.imp fun _ _ q => Tp.ex (e := e) q⟩, h9⟩
/-- hands, slots and orders changed -/
theorem LyH.upd {K : PySem.W.Frag} {CM CL : Addr} {H H' : Hp} {ly fm ld hA sA oA mk kn kp : Addr} {ws : List Wo} {lst : Nat → Option Nat} {hs ss hs' ss' : List Nat} {os os' : List Or} (h : LyH K CM CL H ly fm ld hA sA oA mk kn kp ws lst hs ss os) (e : Ex [hA, sA, oA] H H') (eh : H' hA = some (.lst (hs'.map fun n : Nat => V.int n))) (es : H' sA = some (.lst (ss'.map fun n : Nat => V.int n))) (eo : ∃ us, H' oA = some (.lst us) ∧ P2 (OrH K H') us os') : LyH K CM CL H' ly fm ld hA sA oA mk kn kp ws lst hs' ss' os' := by
  obtain ⟨h1, h2, ⟨kvs, h3, h4⟩, h5, h6, h7, nd⟩ := h
  have nd' := nd
  simp only [List.nodup_cons, List.mem_cons, List.not_mem_nil, or_false, not_or] at nd'
  obtain ⟨⟨a1, a2, a3, a4, a5, a6, a7, a8⟩, ⟨b1, b2, b3, b4, b5, b6, b7⟩, ⟨c1, c2, c3, c4, c5, c6⟩, ⟨d1, d2, d3, d4, d5⟩, ⟨e1, e2, e3, e4⟩, ⟨f1, f2, f3⟩, _⟩ := nd'
  refine ⟨h1.ex e (by simp [a3, a4, a5]), h2.ex e (by simp [b2, b3, b4]) (by simp [Ne.symm d3, Ne.symm e2, Ne.symm f1]) (by simp [Ne.symm d4, Ne.symm e3, Ne.symm f2]) (by simp [Ne.symm d5, Ne.symm e4, Ne.symm f3]), ⟨kvs, e.a ld _ (by simp [c1, c2, c3]) h3 (fun _ z => by cases z), h4⟩, eh, es, eo, nd⟩
section
variable {P : Program} {w : World} {K : PySem.W.Frag} {mg : Str → Option Value} {base : Heap}
def spLay (K : PySem.W.Frag) (CM CL : Addr) : Sp := fun vs H Q _ => ∃ (ly fm ld hA sA oA mk kn kp : Addr) (ws : List Wo) (lst : Nat → Option Nat) (hs ss : List Nat) (os : List Or) (n h a j : Nat), vs = [.ref ly, .int h, .int a] ∧ LyH K CM CL H ly fm ld hA sA oA mk kn kp ws lst hs ss os ∧ LInv n ws lst a j hs ss os ∧ h < n ∧ j < 60 ∧ os.length ≤ 5000 ∧
  ∀ H' s, s < 60 → ¬ Due ws lst a (ss.getD s 0) → Ex [sA, oA] H H' → LyH K CM CL H' ly fm ld hA sA oA mk kn kp ws lst hs (ss.set s (hs.getD h 0)) (os ++ [.lay s h]) → Q .non H'
theorem ok_lay {f fD CM CL : Addr} {fd fdD : FuncData} {k : Nat} (F : Fun K "lay" "Laying.lay" s_lay f fd) (T : TL K mg CL) (GD : FnOk P w K mg base CX0 k fD fdD ["self", "form", "at"] (spDue K CM CL)) (mD : Meth K CL "is_due" fD) (bD : Binds K fdD ["self", "form", "at"] []) (m_enumerate : mg "enumerate" = none) (m_len : mg "len" = none) : FnOk P w K mg base CX0 (k + 1) f fd ["self", "hand", "at"] (spLay K CM CL) := by
  refine F.ok sc_lay (fun vs H Q E h => ?_) (fun cdv A outer s H vs Q E hr h => ?_)
  · obtain ⟨ly, fm, ld, hA, sA, oA, mk, kn, kp, ws, lst, hs, ss, os, n, h, a, j, rfl, _⟩ := h; rfl
  · obtain ⟨ly, fm, ld, hA, sA, oA, mk, kn, kp, ws, lst, hs, ss, os, n, h, a, j, rfl, L, I, hn, hj, hol, q⟩ := h
    refine ⟨_, (pss_cons (ps_setLc (i := 3) (own := [("slot", 4), ("form", 5)]) (g := gTup K 2 (gCons (gName 4) (gCons (gName 5) gNil))) rfl sc_lay.nd rfl rfl (sw_true rfl rfl rfl (by decide +kernel)) (pi_enum (by rfl) m_enumerate (pa_cons (pe_fldK (K := K) rfl (pv 0) rfl) pa_nil)) (blkOk_by (N := n_lay) (sc := defScope s_lay) (by decide +kernel)) (fun _ _ _ _ _ => pg_tupK (K := K) rfl rfl (pgs_cons (pg_name (i := 4) sc_lay.nd rfl (Or.inl rfl)) (pgs_cons (pg_name (i := 5) sc_lay.nd rfl (Or.inl rfl)) pgs_nil))) (fun _ _ _ _ _ => pts_one (pt_not (pt_val (pe_meth (pv 0) T.cl mD GD hr bD .nil pass0 (pa_cons (pv 5) (pa_cons (pv 2) pa_nil)))))) (fun _ _ _ _ _ => (pv 4)))
      (pss_cons (ps_if (pt_cmpR op_eq (pe_callB call_len_seq (by rfl) m_len PySem.boot_len (pa_cons (pv 3) pa_nil)) pe_int (nomark _)) (pss_one ps_dead) pss_nil)
      (pss_cons (ps_asg (pe_ix ix_list (pe_fld (pv 0) rfl) (pv 1) (fun _ _ => rfl)) (pg_sub (pe_fld (pv 0) rfl) (pe_ix ix_list (pv 3) pe_int (fun _ _ => rfl)) set_list))
      (pss_one (ps_expr (pe_bm PySem.F.plainAttrs_list PySem.F.slot_list_append PySem.F.type_list_append mt_append (pe_fld (pv 0) rfl) (pa_cons (pe_tup (pa_cons pe_str (pa_cons (pe_ix ix_list (pv 3) pe_int (fun _ _ => rfl)) (pa_cons (pv 1) pa_nil)))) pa_nil))))))), ?_⟩
    obtain ⟨⟨dx, fs, h1, h2, h3, h4, h5, h6, m1, m2, r⟩, hF, ⟨kvs, hk1, hk2⟩, hh, hS, ⟨us, ho, hus⟩, nd⟩ := id L
    refine ⟨.ref ly, rfl, ly, CL, dx, fs, .ref sA, rfl, h1, T.cl, T.n3, h5, sA, _, rfl, .of hS, fun D nD => ?_⟩
    obtain ⟨yD, hD⟩ := nw46 (o := .lst []) nD
    have L1 := L.mono yD
    refine lc_it (walk_enum (K := K) (a := sA) (xs := ss.map fun n : Nat => V.int n)) (fun i H2 => ∃ ds : List Nat, H2 D = some (.lst (ds.map fun n : Nat => V.int n)) ∧ ds.length ≤ i ∧ (∀ s ∈ ds, s < 60 ∧ ¬ Due ws lst a (ss.getD s 0)) ∧ (∀ s, s < i → ¬ Due ws lst a (ss.getD s 0) → s ∈ ds) ∧ Ex [D] (upd H D (.lst [])) H2) ⟨[], hD, Nat.le_refl _, by simp, fun s hs => by omega, .refl⟩ ?_ ?_ ?_
    · rintro i H2 _ ⟨ds, _, _, _, _, x2⟩
      exact .of (x2.lst (yD.lst hS) (by simpa using ne_of_none hS nD))
    · rintro i v9 H2 H3 hi ⟨ds, hD2, ld2, f1, f2, x2⟩ ⟨T9, xa, xb, rfl, n9, rfl, hxa, hxb⟩
      obtain rfl : V.int (i : Nat) = xa := Option.some.inj hxa
      have hxb : (ss.map fun n : Nat => V.int n)[i]? = some xb := hxb
      rw [List.getElem?_map] at hxb
      obtain ⟨fm9, hf9, rfl⟩ := Option.map_eq_some_iff.mp hxb
      have x02 : Ex [] H H2 := Ex.own nD yD x2
      obtain ⟨yT, hT9⟩ := nw46 (o := .tup [V.int i, .int fm9]) n9
      have L3 := L.mono (x02.trans yT)
      have hD3 := yT.lst hD2
      generalize upd H2 T9 (.tup [V.int i, .int fm9]) = H3 at yT hT9 L3 hD3 ⊢
      obtain ⟨⟨dx3, fs3, g1, g2, g3, g4, g5, g6, gm1, gm2, gr⟩, gF, ⟨kvs3, gk1, gk2⟩, _⟩ := id L3
      have lf : fm9 < (tb ws).length := I.sb _ (List.mem_of_getElem? hf9)
      have i60 : i < 60 := by rw [← I.sl]; exact (List.getElem?_eq_some_iff.mp hf9).1
      have eg : ss.getD i 0 = fm9 := by rw [List.getD_eq_getElem?_getD, hf9]; rfl
      refine ⟨T9, _, rfl, .of hT9, rfl, _, _, rfl, _, _, rfl, rfl, rfl, ?_⟩
      refine ⟨.ref ly, rfl, ly, dx3, fs3, rfl, g1, gm2, .int fm9, rfl, .int a, rfl, ly, fm, ld, hA, sA, oA, mk, kn, kp, tb ws, lst, kvs3, fm9, a, rfl, L3.i, gF, lf, gk1, gk2, _, rfl, ite2 (fun b => ?_) fun b => ?_⟩
      · have nd9 : ¬ Due ws lst a fm9 := fun z => by
          rw [(dueB_iff lf).mpr z] at b; exact Bool.false_ne_true b
        refine ⟨_, rfl, _, hD3, by rw [List.length_map]; exact Nat.lt_of_lt_of_le (show ds.length < 100 by omega) (by decide), ds ++ [i], by rw [upd_same, List.map_append]; rfl, by rw [List.length_append, List.length_singleton]; omega, fun s hs => ?_, fun s hs d => ?_, (x2.trans yT.nil).trans (.put hD3 nt_lst (by simp))⟩
        · rcases List.mem_append.mp hs with m | m
          · exact f1 s m
          · rw [List.mem_singleton.mp m, eg]; exact ⟨i60, nd9⟩
        · by_cases e : s = i
          · rw [e]; simp
          · exact List.mem_append_left _ (f2 s (by omega) d)
      · have du : Due ws lst a fm9 := (dueB_iff lf).mp (by cases q : dueB (tb ws) lst a fm9 with | true => rfl | false => rw [q] at b; exact absurd rfl b)
        refine ⟨ds, hD3, by omega, f1, fun s hs d => ?_, x2.trans yT.nil⟩
        by_cases e : s = i
        · rw [e, eg] at d; exact absurd du d
        · exact f2 s (by omega) d
    · rintro H2 ⟨ds, hD2, ld2, f1, f2, x2⟩
      have x02 : Ex [] H H2 := Ex.own nD yD x2
      have L2 := L.mono x02
      obtain ⟨s0, s60, sd⟩ := I.free hj
      have sm : s0 ∈ ds := f2 s0 (by rw [List.length_map, I.sl]; exact s60) sd
      obtain ⟨t, r', rfl⟩ : ∃ t r', ds = t :: r' := by cases ds with | nil => cases sm | cons t r' => exact ⟨t, r', rfl⟩
      obtain ⟨t60, td⟩ := f1 t List.mem_cons_self
      obtain ⟨⟨dx3, fs3, g1, g2, g3, g4, g5, g6, gm1, gm2, gr⟩, gF, gk, gh, gS, ⟨us3, go, gus⟩, _⟩ := id L2
      refine ⟨.ref D, rfl, D, _, rfl, .inl (.of hD2), rfl, _, rfl, ?_⟩
      rw [decide_eq_false (fun z => by have := V.int.inj z; rw [List.length_map, List.length_cons] at this; omega)]
      refine iteF ?_
      have hl : h < hs.length := by rw [I.hl]; exact hn
      have hat : atI (hs.map fun n : Nat => V.int n) (h : Int) = some (.int (hs.getD h 0)) := atI_nat (by rw [List.getElem?_map, List.getD_eq_getElem?_getD, List.getElem?_eq_getElem hl]; rfl)
      refine ⟨.ref ly, rfl, ly, CL, dx3, fs3, .ref hA, rfl, g1, T.cl, T.n2, g4, .int h, rfl, hA, _, h, _, rfl, rfl, .of gh, hat, ?_⟩
      have nd' := nd
      simp only [List.nodup_cons, List.mem_cons, List.not_mem_nil, or_false, not_or] at nd'
      obtain ⟨⟨a1, a2, a3, a4, a5, a6, a7, a8⟩, ⟨b1, b2, b3, b4, b5, b6, b7⟩, ⟨c1, c2, c3, c4, c5, c6⟩, ⟨d1, d2, d3, d4, d5⟩, ⟨e1, e2, e3, e4⟩, ⟨f1', f2', f3'⟩, _⟩ := nd'
      have sD : sA ≠ D := ne_of_none hS nD
      have oD : oA ≠ D := ne_of_none ho nD
      refine ⟨.ref ly, rfl, ly, CL, dx3, fs3, .ref sA, rfl, g1, T.cl, T.n3, g5, .ref D, rfl, D, _, 0, _, rfl, rfl, .of hD2, at0, sA, _, t, t, rfl, rfl, gS, by rw [List.length_map, I.sl]; exact ixN_of (by omega) (by omega), ?_⟩
      have x4 : Ex [sA] H2 (upd H2 sA (.lst ((ss.map fun n : Nat => V.int n).set t (.int (hs.getD h 0))))) := .put gS nt_lst (by simp)
      have hS4 : (upd H2 sA (.lst ((ss.map fun n : Nat => V.int n).set t (.int (hs.getD h 0))))) sA = some (.lst ((ss.set t (hs.getD h 0)).map fun n : Nat => V.int n)) := by rw [upd_same, List.map_set]
      generalize upd H2 sA (.lst ((ss.map fun n : Nat => V.int n).set t (.int (hs.getD h 0)))) = H4 at x4 hS4 ⊢
      have hO4 := x4.lst go (by simpa using Ne.symm e1)
      have hD4 := x4.lst hD2 (by simpa using sD.symm)
      refine ⟨.ref ly, rfl, ly, CL, dx3, fs3, .ref oA, rfl, x4.a ly _ (by simpa using a4) g1 (fun _ z => by cases z), T.cl, T.n4, g6, .inl ⟨rfl, _, .of hO4⟩, .ref D, rfl, D, _, 0, _, rfl, rfl, .of hD4, at0, .int h, rfl, (by show 3 ≤ sizeLine; decide), fun tt ntt => ?_⟩
      obtain ⟨y5, h5'⟩ := nw46 (o := .tup [V.str (Str.ofString "lay"), .int t, .int h]) ntt
      have hO5 := y5.lst hO4
      have lus : us3.length = os.length := gus.len
      refine ⟨oA, us3, .ref tt, rfl, rfl, hO5, Nat.lt_of_le_of_lt (show us3.length ≤ 5000 by omega) (by decide), ?_⟩
      have x6 : Ex [oA] (upd H4 tt (.tup [V.str (Str.ofString "lay"), .int t, .int h])) (upd (upd H4 tt (.tup [V.str (Str.ofString "lay"), .int t, .int h])) oA (.lst (us3 ++ [.ref tt]))) := .put hO5 nt_lst (by simp)
      have x26 : Ex [sA, oA] H2 (upd (upd H4 tt (.tup [V.str (Str.ofString "lay"), .int t, .int h])) oA (.lst (us3 ++ [.ref tt]))) := ((x4.trans y5.nil).mono (by simp)).trans (x6.mono (by simp))
      have x45 := y5.nil.trans x6
      refine q _ t t60 td (x02.nil.trans x26) (L2.upd (x26.mono (by simp)) (x26.lst gh (by simp [d1, d2])) (x6.lst (y5.lst hS4) (by simpa using e1)) ⟨_, upd_same, ?_⟩)
      exact ((gus.imp fun _ _ z => Tp.ex (e := x4.trans y5.nil) z).app (.cons (show OrH K _ (.ref tt) (.lay t h) from .tup (.of h5') (.cons (.str _) (.cons (.int _) (.cons (.int _) .nil)))) .nil)).imp fun _ _ z => Tp.ex (e := x6) z
end
end K48

set_option maxHeartbeats 8000000
set_option pp.maxSteps 400
set_option pp.deepTerms false
namespace K48
open PySem PySem.Spec PyProof.Rows L2 Kk RZ
abbrev s_fetch : Stmt := inClass (topS 30) 5
theorem sc_fetch : FnScope ["self", "form", "hand"] ["self", "form", "hand"] (defScope s_fetch) := ⟨rfl, rfl, rfl, by decide +kernel, rfl, by decide +kernel, by decide +kernel⟩
theorem first_ix {f : Nat} : ∀ {l : List Nat}, f ∈ l → ∃ s : Nat, l[s]? = some f ∧ ∀ m : Nat, m < s → l[m]? ≠ some f
  | [], h => by cases h
  | x :: r, h => by
    by_cases e : x = f
    · exact ⟨0, by rw [e]; rfl, fun m hm => by omega⟩
    · obtain ⟨s, h1, h2⟩ := first_ix (l := r) ((List.mem_cons.mp h).resolve_left fun z => e z.symm)
      refine ⟨s + 1, h1, fun m hm => ?_⟩
      cases m with
      | zero => exact fun z => e (Option.some.inj z)
      | succ m => exact h2 m (by omega)
def NumsOk (ws : List Wo) : Prop := ∀ (i : Nat) (v : Int), (tb ws)[i]? = some (.number v) → 0 ≤ v ∧ v < 10000
section
variable {P : Program} {w : World} {K : PySem.W.Frag} {mg : Str → Option Value} {base : Heap}
def spFetch (K : PySem.W.Frag) (CM CL : Addr) : Sp := fun vs H Q _ => ∃ (ly fm ld hA sA oA mk kn kp : Addr) (ws : List Wo) (lst : Nat → Option Nat) (hs ss : List Nat) (os : List Or) (n h f a j : Nat), vs = [.ref ly, .int f, .int h] ∧ LyH K CM CL H ly fm ld hA sA oA mk kn kp ws lst hs ss os ∧ LInv n ws lst a j hs ss os ∧ h < n ∧ os.length ≤ 5000 ∧ NumsOk ws ∧ (¬ Due ws lst a (hs.getD h 0) ∨ hs.getD h 0 ∈ ss) ∧ f < (tb ws).length ∧ (f = 0 ∨ ∃ i, i < j ∧ putAt ws i = some f) ∧ (NumF ws f ∨ f ∈ ss) ∧
  ∀ H' o, Ex [hA, oA] H H' → LyH K CM CL H' ly fm ld hA sA oA mk kn kp ws lst (hs.set h f) ss (os ++ [o]) → LInv n ws lst a j (hs.set h f) ss (os ++ [o]) → Q .non H'
theorem ok_fetch {f1 f CM CL : Addr} {fd fd1 : FuncData} {k : Nat} (F : Fun K "fetch" "Laying.fetch" s_fetch f fd) (T : TL K mg CL) (TMk : TM K mg CM) (GN : FnOk P w K mg base CX0 k f1 fd1 ["self", "form"] (spIsNum CM CL)) (mN : Meth K CL "is_number" f1) (bN : Binds K fd1 ["self", "form"] []) : FnOk P w K mg base CX0 (k + 1) f fd ["self", "form", "hand"] (spFetch K CM CL) := by
  refine F.ok sc_fetch (fun vs H Q E h => ?_) (fun cdv A outer s H vs Q E hr h => ?_)
  · obtain ⟨ly, fm, ld, hA, sA, oA, mk, kn, kp, ws, lst, hs, ss, os, n, h, f, a, j, rfl, _⟩ := h; rfl
  · obtain ⟨ly, fm, ld, hA, sA, oA, mk, kn, kp, ws, lst, hs, ss, os, n, h, f, a, j, rfl, L, I, hn, hol, nums, dr, lf, mf, hf, q⟩ := h
    refine ⟨_, (pss_cons (ps_if (pt_val (pe_meth (pv 0) T.cl mN GN hr bN .nil pass0 (pa_cons (pv 1) pa_nil))) (pss_one (ps_expr (pe_bm PySem.F.plainAttrs_list PySem.F.slot_list_append PySem.F.type_list_append mt_append (pe_fld (pv 0) rfl) (pa_cons (pe_tup (pa_cons pe_str (pa_cons (pv 2) (pa_cons (pe_ix ix_tup (pe_ix ix_list (pe_fld (pe_fld (pv 0) rfl) rfl) (pv 1) (fun _ _ => rfl)) pe_int (fun _ _ => rfl)) pa_nil)))) pa_nil)))) (pss_one (ps_expr (pe_bm PySem.F.plainAttrs_list PySem.F.slot_list_append PySem.F.type_list_append mt_append (pe_fld (pv 0) rfl) (pa_cons (pe_tup (pa_cons pe_str (pa_cons (pv 2) (pa_cons (pe_bm PySem.F.plainAttrs_list PySem.F.slot_list_index PySem.F.type_list_index mt_index (pe_fld (pv 0) rfl) (pa_cons (pv 1) pa_nil)) pa_nil)))) pa_nil)))))
      (pss_one (ps_asg (pv 1) (pg_sub (pe_fld (pv 0) rfl) (pv 2) set_list)))), ?_⟩
    obtain ⟨⟨dx, fs, h1, h2, h3, h4, h5, h6, m1, m2, r⟩, hF, ⟨kvs, hk1, hk2⟩, hh, hS, ⟨us, ho, hus⟩, nd⟩ := id L
    obtain ⟨⟨dx', fs', g1, g2, _⟩, ⟨vs, g3, g4⟩, _⟩ := id hF
    have nd' := nd
    simp only [List.nodup_cons, List.mem_cons, List.not_mem_nil, or_false, not_or] at nd'
    obtain ⟨⟨a1, a2, a3, a4, a5, a6, a7, a8⟩, ⟨b1, b2, b3, b4, b5, b6, b7⟩, ⟨c1, c2, c3, c4, c5, c6⟩, ⟨d1, d2, d3, d4, d5⟩, ⟨e1, e2, e3, e4⟩, ⟨f1', f2', f3'⟩, _⟩ := nd'
    have lus : us.length = os.length := hus.len
    have hl : h < hs.length := by rw [I.hl]; exact hn
    -- what is done behind the order
    have fin : ∀ (H3 : Hp) (tt : Addr) (o : Or), Ex [] H H3 → H3 tt = none → ∀ xs, OrH K (upd H3 tt (.tup xs)) (.ref tt) o → LInv n ws lst a j (hs.set h f) ss (os ++ [o]) → H3 oA = some (.lst us) ∧ us.length < sizeLine ∧ ∀ H5, H5 = upd (upd H3 tt (.tup xs)) oA (.lst (us ++ [.ref tt])) → H5 ly = some (.ins CL dx fs) ∧ H5 hA = some (.lst (hs.map fun n : Nat => V.int n)) ∧ Q .non (upd H5 hA (.lst ((hs.map fun n : Nat => V.int n).set h (.int f)))) := by
      intro H3 tt o x3 nt xs ho' I'
      obtain ⟨y4, _⟩ := nw46 (o := .tup xs) nt
      have ho4 := y4.lst (x3.lst ho)
      have x5 : Ex [oA] (upd H3 tt (.tup xs)) (upd (upd H3 tt (.tup xs)) oA (.lst (us ++ [.ref tt]))) := .put ho4 nt_lst (by simp)
      refine ⟨x3.lst ho, Nat.lt_of_le_of_lt (show us.length ≤ 5000 by omega) (by decide), fun H5 e5 => ?_⟩
      subst e5
      have x05 : Ex [oA] H (upd (upd H3 tt (.tup xs)) oA (.lst (us ++ [.ref tt]))) := (x3.trans y4).nil.trans x5
      have hh5 := x05.lst hh (by simpa using d2)
      refine ⟨x05.a ly _ (by simpa using a5) h1 (fun _ z => by cases z), hh5, ?_⟩
      have x6 : Ex [hA] (upd (upd H3 tt (.tup xs)) oA (.lst (us ++ [.ref tt]))) (upd (upd (upd H3 tt (.tup xs)) oA (.lst (us ++ [.ref tt]))) hA (.lst ((hs.map fun n : Nat => V.int n).set h (.int f)))) := .put hh5 nt_lst (by simp)
      have x06 := (x05.mono (ys := [hA, oA]) (by simp)).trans (x6.mono (ys := [hA, oA]) (by simp))
      refine q _ o x06 (L.upd (x06.mono (by simp)) (by rw [upd_same, List.map_set]) (x06.lst hS (by simp [Ne.symm d1, e1])) ⟨us ++ [.ref tt], x6.lst upd_same (by simpa using Ne.symm d2), ?_⟩) I'
      exact ((hus.imp fun _ _ z => Tp.ex (e := x3.trans y4) z).app (.cons ho' .nil)).imp fun _ _ z => Tp.ex (e := x6) (Tp.ex (e := x5) z)
    refine ⟨.ref ly, rfl, ly, dx, fs, rfl, h1, m1, .int f, rfl, ly, fm, ld, hA, sA, oA, mk, kn, kp, tb ws, f, rfl, L.i, hF, lf, _, rfl, ite2 (fun b => ?_) fun b => ?_⟩
    · obtain ⟨v0, hv⟩ : ∃ v, vs[f]? = some v := ⟨_, List.getElem?_eq_getElem (by rw [g4.len]; exact lf)⟩
      obtain ⟨m, hm, t, rfl, ht⟩ := g4.getL hv
      obtain ⟨nv, rfl⟩ : ∃ v, m = .number v := by
        unfold isNB at b
        rw [hm] at b
        cases m with
        | number v => exact ⟨v, rfl⟩
        | _ => cases b
      have ht : H t = some (.tup [V.str (Str.ofString "number"), .int nv]) := ht
      obtain ⟨n0, n1⟩ := nums f nv hm
      have I' := I.fetchN hn dr lf (by rw [tr_at (tbW ws) hm]; rfl) n0 n1 mf
      refine ⟨.ref ly, rfl, ly, CL, dx, fs, .ref oA, rfl, h1, T.cl, T.n4, h6, .inl ⟨rfl, _, .of ho⟩, .int h, rfl, .ref ly, rfl, ly, CL, dx, fs, .ref fm, rfl, h1, T.cl, T.n0, h2, fm, CM, dx', fs', .ref mk, rfl, g1, TMk.cl, TMk.n0, g2, .int f, rfl, mk, vs, f, _, rfl, rfl, .of g3, atI_nat hv, t, _, 1, _, rfl, rfl, .of ht, atI_nat (j := 1) rfl, (by show 3 ≤ sizeLine; decide), fun tt ntt => ?_⟩
      obtain ⟨y4, h4'⟩ := nw46 (o := .tup [V.str (Str.ofString "number"), .int h, .int nv]) ntt
      obtain ⟨w1, w2, w3⟩ := fin H tt (.number h nv) .refl ntt [V.str (Str.ofString "number"), .int h, .int nv] (.tup (.of h4') (.cons (.str _) (.cons (.int _) (.cons (.int _) .nil)))) I'
      have hO : (upd H tt (.tup [V.str (Str.ofString "number"), .int h, .int nv])) oA = some (.lst us) := y4.lst ho
      refine ⟨oA, us, .ref tt, rfl, rfl, hO, w2, ?_⟩
      obtain ⟨v1, v2, v3⟩ := w3 _ rfl
      exact ⟨.int f, rfl, .ref ly, rfl, ly, CL, dx, fs, .ref hA, rfl, v1, T.cl, T.n2, h4, .int h, rfl, hA, _, h, h, rfl, rfl, v2, by rw [List.length_map]; exact ixN_of (by omega) (by omega), v3⟩
    · have fm' : f ∈ ss := hf.resolve_left fun z => b ((isNB_iff lf).mpr z)
      obtain ⟨s0, z1, z2⟩ := first_ix fm'
      have s60 : s0 < 60 := by rw [← I.sl]; exact (List.getElem?_eq_some_iff.mp z1).1
      have eg : ss.getD s0 0 = f := by rw [List.getD_eq_getElem?_getD, z1]; rfl
      have I' := I.fetchS hn dr s60
      rw [eg] at I'
      have fl : ∀ l : List Nat, ((l.map fun n : Nat => V.int n).all flatV) = true := fun l => by rw [List.all_eq_true]; intro x hx; obtain ⟨n, _, rfl⟩ := List.mem_map.mp hx; rfl
      refine ⟨.ref ly, rfl, ly, CL, dx, fs, .ref oA, rfl, h1, T.cl, T.n4, h6, .inl ⟨rfl, _, .of ho⟩, .int h, rfl, .ref ly, rfl, ly, CL, dx, fs, .ref sA, rfl, h1, T.cl, T.n3, h5, .inl ⟨rfl, _, .of hS⟩, .int f, rfl, sA, _, .int f, s0, .int f, rfl, rfl, .of hS, rfl, fl ss, by rw [List.getElem?_map, z1]; rfl, by simp [eqV], fun m z' lm e => ?_, (by show 3 ≤ sizeLine; decide), fun tt ntt => ?_⟩
      · rw [List.getElem?_map] at e
        obtain ⟨x, e1', e2'⟩ := Option.map_eq_some_iff.mp e
        subst e2'
        have ne : x ≠ f := fun q => z2 m lm (by rw [e1', q])
        show ((x : Int) == (f : Int)) = false
        rw [beq_eq_false_iff_ne]
        omega
      obtain ⟨y4, h4'⟩ := nw46 (o := .tup [V.str (Str.ofString "fetch"), .int h, .int s0]) ntt
      obtain ⟨w1, w2, w3⟩ := fin H tt (.fetch h s0) .refl ntt [V.str (Str.ofString "fetch"), .int h, .int s0] (.tup (.of h4') (.cons (.str _) (.cons (.int _) (.cons (.int _) .nil)))) I'
      have hO : (upd H tt (.tup [V.str (Str.ofString "fetch"), .int h, .int s0])) oA = some (.lst us) := y4.lst ho
      refine ⟨oA, us, .ref tt, rfl, rfl, hO, w2, ?_⟩
      obtain ⟨v1, v2, v3⟩ := w3 _ rfl
      exact ⟨.int f, rfl, .ref ly, rfl, ly, CL, dx, fs, .ref hA, rfl, v1, T.cl, T.n2, h4, .int h, rfl, hA, _, h, h, rfl, rfl, v2, by rw [List.length_map]; exact ixN_of (by omega) (by omega), v3⟩
end
end K48

set_option maxHeartbeats 8000000
set_option pp.maxSteps 400
set_option pp.deepTerms false
namespace K48
open PySem PySem.Spec PyProof.Rows L2 Kk RZ
abbrev s_wipe_all : Stmt := inClass (topS 30) 10
abbrev n_wipe_all : List Str := ["self", "kept", "hand", "form", "slot"]
theorem sc_wipe_all : FnScope n_wipe_all ["self"] (defScope s_wipe_all) := ⟨rfl, rfl, rfl, by decide +kernel, rfl, by decide +kernel, by decide +kernel⟩
section
variable {P : Program} {w : World} {K : PySem.W.Frag} {mg : Str → Option Value} {base : Heap}
def spWipeAll (K : PySem.W.Frag) (CM CL : Addr) : Sp := fun vs H Q _ => ∃ (ly fm ld hA sA oA mk kn kp : Addr) (ws : List Wo) (lst : Nat → Option Nat) (hs ss : List Nat) (os : List Or) (n a : Nat), vs = [.ref ly] ∧ LyH K CM CL H ly fm ld hA sA oA mk kn kp ws lst hs ss os ∧ LInv n ws lst a ws.length hs ss os ∧ os.length ≤ 5000 ∧ n ≤ 20 ∧
  ∀ H' os', Ex [oA] H H' → LyH K CM CL H' ly fm ld hA sA oA mk kn kp ws lst hs ss os' → LaidOk n ws os' → os'.length ≤ os.length + 80 → Q .non H'
theorem ok_wipe_all {f CM CL : Addr} {fd : FuncData} {k : Nat} (F : Fun K "wipe_all" "Laying.wipe_all" s_wipe_all f fd) (T : TL K mg CL) (TMk : TM K mg CM) (m_enumerate : mg "enumerate" = none) : FnOk P w K mg base CX0 (k + 1) f fd ["self"] (spWipeAll K CM CL) := by
  refine F.ok sc_wipe_all (fun vs H Q E h => ?_) (fun cdv A outer s H vs Q E hr h => ?_)
  · obtain ⟨ly, fm, ld, hA, sA, oA, mk, kn, kp, ws, lst, hs, ss, os, n, a, rfl, _⟩ := h; rfl
  · obtain ⟨ly, fm, ld, hA, sA, oA, mk, kn, kp, ws, lst, hs, ss, os, n, a, rfl, L, I, hol, hn20, q⟩ := h
    refine ⟨_, (pss_cons (ps_set (i := 1) sc_wipe_all.nd rfl (.inr rfl) (pe_fld (pe_fld (pv 0) rfl) rfl))
      (pss_cons (ps_expr (pe_bm PySem.F.plainAttrs_list PySem.F.slot_list_extend PySem.F.type_list_extend mt_extend (pe_fld (pv 0) rfl) (pa_cons (pe_lc (own := [("hand", 2), ("form", 3)]) (g := gTup K 2 (gCons (gName 2) (gCons (gName 3) gNil))) rfl sc_wipe_all.nd (pi_enum (by rfl) m_enumerate (pa_cons (pe_fldK (K := K) rfl (pv 0) rfl) pa_nil)) (blkOk_by (N := n_wipe_all) (sc := defScope s_wipe_all) (by decide +kernel)) (fun _ _ _ _ _ => pg_tupK (K := K) rfl rfl (pgs_cons (pg_name (i := 2) sc_wipe_all.nd rfl (Or.inl rfl)) (pgs_cons (pg_name (i := 3) sc_wipe_all.nd rfl (Or.inl rfl)) pgs_nil))) (fun _ _ _ _ _ => pts_one (pt_val (pe_ix (ix_listK (K := K) rfl) (pv 1) (pv 3) (fun _ _ => rfl)))) (fun _ _ _ _ _ => (pe_tup (pa_cons pe_str (pa_cons (pv 2) pa_nil))))) pa_nil)))
      (pss_one (ps_expr (pe_bm PySem.F.plainAttrs_list PySem.F.slot_list_extend PySem.F.type_list_extend mt_extend (pe_fld (pv 0) rfl) (pa_cons (pe_lc (own := [("slot", 4), ("form", 3)]) (g := gTup K 2 (gCons (gName 4) (gCons (gName 3) gNil))) rfl sc_wipe_all.nd (pi_enum (by rfl) m_enumerate (pa_cons (pe_fldK (K := K) rfl (pv 0) rfl) pa_nil)) (blkOk_by (N := n_wipe_all) (sc := defScope s_wipe_all) (by decide +kernel)) (fun _ _ _ _ _ => pg_tupK (K := K) rfl rfl (pgs_cons (pg_name (i := 4) sc_wipe_all.nd rfl (Or.inl rfl)) (pgs_cons (pg_name (i := 3) sc_wipe_all.nd rfl (Or.inl rfl)) pgs_nil))) (fun _ _ _ _ _ => pts_one (pt_val (pe_ix (ix_listK (K := K) rfl) (pv 1) (pv 3) (fun _ _ => rfl)))) (fun _ _ _ _ _ => (pe_tup (pa_cons pe_str (pa_cons (pv 4) pa_nil))))) pa_nil)))))), ?_⟩
    obtain ⟨⟨dx, fs, h1, h2, h3, h4, h5, h6, r⟩, hF, ⟨kvs, hk1, hk2⟩, hh, hS, ⟨us, ho, hus⟩, nd⟩ := id L
    obtain ⟨⟨dx', fs', g1, g2, g3, g4, _⟩, _, _, gp, _⟩ := id hF
    have nd' := nd
    simp only [List.nodup_cons, List.mem_cons, List.not_mem_nil, or_false, not_or] at nd'
    obtain ⟨⟨a1, a2, a3, a4, a5, a6, a7, a8⟩, ⟨b1, b2, b3, b4, b5, b6, b7⟩, ⟨c1, c2, c3, c4, c5, c6⟩, ⟨d1, d2, d3, d4, d5⟩, ⟨e1, e2, e3, e4⟩, ⟨f1', f2', f3'⟩, _⟩ := nd'
    have lus : us.length = os.length := hus.len
    refine ⟨.ref ly, rfl, ly, CL, dx, fs, .ref fm, rfl, h1, T.cl, T.n0, h2, fm, CM, dx', fs', .ref kp, rfl, g1, TMk.cl, TMk.n2, g4, ?_⟩
    refine ⟨.ref ly, rfl, ly, CL, dx, fs, .ref oA, rfl, h1, T.cl, T.n4, h6, .inl ⟨rfl, _, .of ho⟩, ?_⟩
    refine ⟨.ref ly, rfl, ly, CL, dx, fs, .ref hA, rfl, h1, T.cl, T.n2, h4, hA, _, rfl, .of hh, fun D nD => ?_⟩
    obtain ⟨yD, hD⟩ := nw46 (o := .lst []) nD
    have kkg : ∀ {f : Nat}, f < (tb ws).length → atI ((kpt (tb ws)).map V.bl) (f : Int) = some (.bl (kk (tb ws) f)) := fun {f} l => atI_nat (by
      rw [List.getElem?_map]
      unfold kk
      rw [List.getD_eq_getElem?_getD, List.getElem?_eq_getElem (by rw [kpt_len]; exact l)]; rfl)
    refine lc_it (walk_enum (K := K) (a := hA) (xs := hs.map fun n : Nat => V.int n)) (fun i H2 => ∃ (wh : List Nat) (ts : List V), H2 D = some (.lst ts) ∧ P2 (OrH K H2) ts (wh.map Or.wipe) ∧ wh.length ≤ i ∧ (∀ h ∈ wh, h < n) ∧ (∀ h, h < i → kk (tb ws) (hs.getD h 0) = true → h ∈ wh) ∧ Ex [D] (upd H D (.lst [])) H2) ⟨[], [], hD, .nil, Nat.le_refl _, by simp, fun s hs => by omega, .refl⟩ ?_ ?_ ?_
    · rintro i H2 _ ⟨wh, ts, _, _, _, _, _, x2⟩
      exact .of (x2.lst (yD.lst hh) (by simpa using ne_of_none hh nD))
    · rintro i v9 H2 H3 hi ⟨wh, ts, hD2, p2, lw, f1, f2, x2⟩ ⟨T9, xa, xb, rfl, n9, rfl, hxa, hxb⟩
      obtain rfl : V.int (i : Nat) = xa := Option.some.inj hxa
      have hxb : (hs.map fun n : Nat => V.int n)[i]? = some xb := hxb
      rw [List.getElem?_map] at hxb
      obtain ⟨fm9, hf9, rfl⟩ := Option.map_eq_some_iff.mp hxb
      have x02 : Ex [] H H2 := Ex.own nD yD x2
      obtain ⟨yT, hT9⟩ := nw46 (o := .tup [V.int i, .int fm9]) n9
      have hD3 := yT.lst hD2
      have gp3 := (x02.trans yT).lst gp
      have p3 : P2 (OrH K _) ts (wh.map Or.wipe) := p2.imp fun _ _ z => Tp.ex (e := yT) z
      generalize upd H2 T9 (.tup [V.int i, .int fm9]) = H3 at yT hT9 hD3 gp3 p3 ⊢
      have lf : fm9 < (tb ws).length := I.hb _ (List.mem_of_getElem? hf9)
      have il : i < n := by rw [← I.hl]; exact (List.getElem?_eq_some_iff.mp hf9).1
      have eg : hs.getD i 0 = fm9 := by rw [List.getD_eq_getElem?_getD, hf9]; rfl
      refine ⟨T9, _, rfl, .of hT9, rfl, _, _, rfl, _, _, rfl, rfl, rfl, ?_⟩
      refine ⟨.ref kp, rfl, .int fm9, rfl, kp, _, fm9, _, rfl, rfl, .of gp3, kkg lf, _, rfl, ite2 (fun b => ?_) fun b => ?_⟩
      · refine ⟨.int i, rfl, (by show 2 ≤ sizeLine; decide), fun tt ntt => ?_⟩
        obtain ⟨y4, h4'⟩ := nw46 (o := .tup [V.str (Str.ofString "wipe"), .int i]) ntt
        have hD4 := y4.lst hD3
        have xp : Ex [D] (upd H3 tt (.tup [V.str (Str.ofString "wipe"), .int i])) (upd (upd H3 tt (.tup [V.str (Str.ofString "wipe"), .int i])) D (.lst (ts ++ [.ref tt]))) := .put hD4 nt_lst (by simp)
        have lts : ts.length = wh.length := by rw [p3.len, List.length_map]
        refine ⟨ts, hD4, Nat.lt_of_lt_of_le (show ts.length < 100 by omega) (by decide), wh ++ [i], ts ++ [.ref tt], upd_same, ?_, by rw [List.length_append, List.length_singleton]; omega, fun h hh' => ?_, fun h hh' kq => ?_, ((x2.trans yT.nil).trans y4.nil).trans xp⟩
        · rw [List.map_append]
          exact ((p3.imp fun _ _ z => Tp.ex (e := y4) z).app (.cons (show OrH K _ (.ref tt) (.wipe i) from .tup (.of h4') (.cons (.str _) (.cons (.int _) .nil))) .nil)).imp fun _ _ z => Tp.ex (e := xp) z
        · rcases List.mem_append.mp hh' with m | m
          · exact f1 h m
          · rw [List.mem_singleton.mp m]; exact il
        · by_cases e : h = i
          · rw [e]; simp
          · exact List.mem_append_left _ (f2 h (by omega) kq)
      · refine ⟨wh, ts, hD3, p3, by omega, f1, fun h hh' kq => ?_, x2.trans yT.nil⟩
        by_cases e : h = i
        · rw [e, eg] at kq; exact absurd kq b
        · exact f2 h (by omega) kq
    · rintro H2 ⟨wh, ts, hD2, p2, lw, f1, f2, x2⟩
      have x02 : Ex [] H H2 := Ex.own nD yD x2
      rw [List.length_map, I.hl] at lw f2
      have lts : ts.length = wh.length := by rw [p2.len, List.length_map]
      have ho2 := x02.lst ho
      refine ⟨oA, D, us, ts, rfl, rfl, ho2, hD2, Nat.le_trans (show us.length + ts.length ≤ 5100 by omega) (by decide), ?_⟩
      have x3 : Ex [oA] H2 (upd H2 oA (.lst (us ++ ts))) := .put ho2 nt_lst (by simp)
      have hO3 : (upd H2 oA (.lst (us ++ ts))) oA = some (.lst (us ++ ts)) := upd_same
      have pO3 : P2 (OrH K (upd H2 oA (.lst (us ++ ts)))) (us ++ ts) (os ++ wh.map Or.wipe) := ((hus.imp fun _ _ z => Tp.ex (e := x02) z).app p2).imp fun _ _ z => Tp.ex (e := x3) z
      generalize upd H2 oA (.lst (us ++ ts)) = H3 at x3 hO3 pO3 ⊢
      have x03 : Ex [oA] H H3 := x02.nil.trans x3
      have i3 := x03.a ly _ (by simpa using a5) h1 (fun _ z => by cases z)
      have hS3 := x03.lst hS (by simpa using e1)
      have gp3 := x03.lst gp (by simpa using Ne.symm f3')
      refine ⟨.ref ly, rfl, ly, CL, dx, fs, .ref oA, rfl, i3, T.cl, T.n4, h6, .inl ⟨rfl, _, .of hO3⟩, .ref ly, rfl, ly, CL, dx, fs, .ref sA, rfl, i3, T.cl, T.n3, h5, sA, _, rfl, .of hS3, fun D2 nD2 => ?_⟩
      obtain ⟨yD2, hDD⟩ := nw46 (o := .lst []) nD2
      refine lc_it (walk_enum (K := K) (a := sA) (xs := ss.map fun n : Nat => V.int n)) (fun i H2 => ∃ (wh : List Nat) (ts : List V), H2 D2 = some (.lst ts) ∧ P2 (OrH K H2) ts (wh.map Or.clean) ∧ wh.length ≤ i ∧ (∀ h ∈ wh, h < 60) ∧ (∀ h, h < i → kk (tb ws) (ss.getD h 0) = true → h ∈ wh) ∧ Ex [D2] (upd H3 D2 (.lst [])) H2) ⟨[], [], hDD, .nil, Nat.le_refl _, by simp, fun s hs => by omega, .refl⟩ ?_ ?_ ?_
      · rintro i H2 _ ⟨wh, ts, _, _, _, _, _, x2⟩
        exact .of (x2.lst (yD2.lst hS3) (by simpa using ne_of_none hS3 nD2))
      · rintro i v9 H2 H3 hi ⟨wh, ts, hD2, p2, lw, f1, f2, x2⟩ ⟨T9, xa, xb, rfl, n9, rfl, hxa, hxb⟩
        obtain rfl : V.int (i : Nat) = xa := Option.some.inj hxa
        have hxb : (ss.map fun n : Nat => V.int n)[i]? = some xb := hxb
        rw [List.getElem?_map] at hxb
        obtain ⟨fm9, hf9, rfl⟩ := Option.map_eq_some_iff.mp hxb
        have x02 : Ex [] H3 H2 := Ex.own nD2 yD2 x2
        obtain ⟨yT, hT9⟩ := nw46 (o := .tup [V.int i, .int fm9]) n9
        have hD3 := yT.lst hD2
        have gp4 := (x02.trans yT).lst gp3
        have p3 : P2 (OrH K _) ts (wh.map Or.clean) := p2.imp fun _ _ z => Tp.ex (e := yT) z
        generalize upd H2 T9 (.tup [V.int i, .int fm9]) = H3 at yT hT9 hD3 gp4 p3 ⊢
        have lf : fm9 < (tb ws).length := I.sb _ (List.mem_of_getElem? hf9)
        have il : i < 60 := by rw [← I.sl]; exact (List.getElem?_eq_some_iff.mp hf9).1
        have eg : ss.getD i 0 = fm9 := by rw [List.getD_eq_getElem?_getD, hf9]; rfl
        refine ⟨T9, _, rfl, .of hT9, rfl, _, _, rfl, _, _, rfl, rfl, rfl, ?_⟩
        refine ⟨.ref kp, rfl, .int fm9, rfl, kp, _, fm9, _, rfl, rfl, .of gp4, kkg lf, _, rfl, ite2 (fun b => ?_) fun b => ?_⟩
        · refine ⟨.int i, rfl, (by show 2 ≤ sizeLine; decide), fun tt ntt => ?_⟩
          obtain ⟨y4, h4'⟩ := nw46 (o := .tup [V.str (Str.ofString "clean"), .int i]) ntt
          have hD4 := y4.lst hD3
          have xp : Ex [D2] (upd H3 tt (.tup [V.str (Str.ofString "clean"), .int i])) (upd (upd H3 tt (.tup [V.str (Str.ofString "clean"), .int i])) D2 (.lst (ts ++ [.ref tt]))) := .put hD4 nt_lst (by simp)
          have lts : ts.length = wh.length := by rw [p3.len, List.length_map]
          refine ⟨ts, hD4, Nat.lt_of_lt_of_le (show ts.length < 100 by omega) (by decide), wh ++ [i], ts ++ [.ref tt], upd_same, ?_, by rw [List.length_append, List.length_singleton]; omega, fun h hh' => ?_, fun h hh' kq => ?_, ((x2.trans yT.nil).trans y4.nil).trans xp⟩
          · rw [List.map_append]
            exact ((p3.imp fun _ _ z => Tp.ex (e := y4) z).app (.cons (show OrH K _ (.ref tt) (.clean i) from .tup (.of h4') (.cons (.str _) (.cons (.int _) .nil))) .nil)).imp fun _ _ z => Tp.ex (e := xp) z
          · rcases List.mem_append.mp hh' with m | m
            · exact f1 h m
            · rw [List.mem_singleton.mp m]; exact il
          · by_cases e : h = i
            · rw [e]; simp
            · exact List.mem_append_left _ (f2 h (by omega) kq)
        · refine ⟨wh, ts, hD3, p3, by omega, f1, fun h hh' kq => ?_, x2.trans yT.nil⟩
          by_cases e : h = i
          · rw [e, eg] at kq; exact absurd kq b
          · exact f2 h (by omega) kq
      · rintro H5 ⟨cs, qs, hD5, p5, lw5, f15, f25, x5⟩
        rw [List.length_map, I.sl] at lw5 f25
        have x35 : Ex [] H3 H5 := Ex.own nD2 yD2 x5
        have hO5 := x35.lst hO3
        have lqs : qs.length = cs.length := by rw [p5.len, List.length_map]
        refine ⟨oA, D2, us ++ ts, qs, rfl, rfl, hO5, hD5, Nat.le_trans (show (us ++ ts).length + qs.length ≤ 5200 by rw [List.length_append]; omega) (by decide), ?_⟩
        have x6 : Ex [oA] H5 (upd H5 oA (.lst (us ++ ts ++ qs))) := .put hO5 nt_lst (by simp)
        have x06 := (x03.trans x35.nil).trans x6
        refine q _ (os ++ wh.map Or.wipe ++ cs.map Or.clean) x06 (L.upd (x06.mono (by simp)) (x06.lst hh (by simpa using d2)) (x06.lst hS (by simpa using e1)) ⟨_, upd_same, ((pO3.imp fun _ _ z => Tp.ex (e := x35) z).app p5).imp fun _ _ z => Tp.ex (e := x6) z⟩) (I.done (fun h hh' k' => f2 h hh' k') f1 (fun s hs' k' => f25 s hs' k') f15) ?_
        rw [List.length_append, List.length_append, List.length_map, List.length_map]; omega
end
end K48

namespace Kk
open PySem PySem.Spec PyProof.Rows L2
/-! max of a list of pairs of whole numbers: it is one of the list -/
def rMaxL (K : PySem.W.Frag) : List V → Hp → VK → Prop := fun vs H Q => ∃ (a : Addr) (xs : List V) (ps : List (Int × Int)), vs = [V.ref a] ∧ SqL K H a xs ∧ 0 < xs.length ∧ DpAll K H xs (ps.map fun p => PyData.tuple [.int p.1, .int p.2]) ∧ ∀ x ∈ xs, Q x H
theorem dep_pairs : ∀ ps : List (Int × Int), PyData.depthAll (ps.map fun p => PyData.tuple [.int p.1, .int p.2]) ≤ 1
  | [] => by show 0 ≤ 1; decide
  | p :: r => by
    show max (PyData.depth (.tuple [.int p.1, .int p.2])) (PyData.depthAll (r.map fun p => PyData.tuple [.int p.1, .int p.2])) ≤ 1
    have := dep_pairs r
    have e : PyData.depth (.tuple [.int p.1, .int p.2]) ≤ 1 := by
      show 1 + max 0 (max 0 0) ≤ 1
      decide
    omega
theorem alike_pairs (ps : List (Int × Int)) : PySem.W.AlikeAll (ps.map fun p => PyData.tuple [.int p.1, .int p.2]) := PySem.W.alikeAll_datum ps
theorem vals_back : ∀ {xs : List V} {us : List Value} {i : Nat} {u : Value}, Vals xs us → us[i]? = some u → ∃ x, x ∈ xs ∧ RelV x u
  | _, _, _, _, .nil, e => by simp at e
  | _, _, 0, _, .cons r _, e => by simp at e; subst e; exact ⟨_, List.mem_cons_self, r⟩
  | _, _, i + 1, _, .cons _ t, e => by
    obtain ⟨x, h1, h2⟩ := vals_back (i := i) t (by simpa using e)
    exact ⟨x, List.mem_cons_of_mem _ h1, h2⟩
theorem cr_maxL {X : Cx} {K : PySem.W.Frag} (hK : X.K = K) (hc : X.calm = true) (hu : X.A.units + 64 < cLine) : CallR X (.builtin "max") (rMaxL K) := by
  subst hK
  intro pins s σ H vs us Q I r h
  obtain ⟨a, xs, ps, rfl, hs, hx, hd, q⟩ := h
  obtain ⟨its, rv, pl, _⟩ := I.list hs
  rw [Vals.ref1 r]
  obtain ⟨as, hr⟩ := Dp.readsAll I _ _ _ hd rv
  cases ps with
  | nil => cases hd; simp at hx
  | cons p r' =>
    refine PySem.W.max_list_data (x := .tuple [.int p.1, .int p.2]) (xs := r'.map fun (p : Int × Int) => PyData.tuple [.int p.1, .int p.2]) (I.ok.hd hc) pl.isList (by simpa using hr) (alike_pairs (p :: r')) ?_ fun i v h' tk bs hi rd hk => ?_
    · have : PyData.depthAll (.tuple [.int p.1, .int p.2] :: r'.map fun p => PyData.tuple [.int p.1, .int p.2]) ≤ 1 := dep_pairs (p :: r')
      omega
    · obtain ⟨x, hm, rx⟩ := vals_back rv (by simpa using hi)
      exact ⟨x, H, I.kept hk, rx, q x hm⟩
end Kk

set_option maxHeartbeats 8000000
set_option pp.maxSteps 400
set_option pp.deepTerms false
namespace K48
open PySem PySem.Spec PyProof.Rows L2 Kk RZ
abbrev s_free_hand : Stmt := inClass (topS 30) 4
abbrev n_free_hand : List Str := ["self", "at", "spared", "choices", "hand", "form", "one"]
theorem sc_free_hand : FnScope n_free_hand ["self", "at", "spared"] (defScope s_free_hand) := ⟨rfl, rfl, rfl, by decide +kernel, rfl, by decide +kernel, by decide +kernel⟩
theorem op_notIn_seqK {X : Cx} {K : PySem.W.Frag} (h : X.K = K) : OpR X (compareOp .NotIn) (rIn K true) := by subst h; exact op_notIn_seq
/-- a pair of whole numbers -/
def PrH (H : Hp) (x : V) (p : Int × Int) : Prop := ∃ t, x = .ref t ∧ H t = some (.tup [.int p.1, .int p.2])
theorem PrH.ex {H H' : Hp} {x : V} {p : Int × Int} {xs : List Addr} (h : PrH H x p) (e : Ex xs H H') : PrH H' x p := by
  obtain ⟨t, rfl, h⟩ := h; exact ⟨t, rfl, e.tup h⟩
theorem pr_dps {K : PySem.W.Frag} {H : Hp} {ts : List V} {ps : List (Int × Int)} (h : P2 (PrH H) ts ps) : DpAll K H ts (ps.map fun p => PyData.tuple [.int p.1, .int p.2]) := by
  induction h with
  | nil => exact .nil
  | cons a t ih =>
    obtain ⟨t, rfl, ht⟩ := a
    exact .cons (.tup (.of ht) (.cons (.int _) (.cons (.int _) .nil))) ih
section
variable {P : Program} {w : World} {K : PySem.W.Frag} {mg : Str → Option Value} {base : Heap}
def spFree (K : PySem.W.Frag) (CM CL : Addr) : Sp := fun vs H Q _ => ∃ (ly fm ld hA sA oA mk kn kp sp : Addr) (ws : List Wo) (lst : Nat → Option Nat) (hs ss sps : List Nat) (os : List Or) (n a j : Nat), vs = [.ref ly, .int a, .ref sp] ∧ LyH K CM CL H ly fm ld hA sA oA mk kn kp ws lst hs ss os ∧ LInv n ws lst a j hs ss os ∧ j < 60 ∧ os.length ≤ 5000 ∧ n ≤ 20 ∧ SqL K H sp (sps.map fun n : Nat => V.int n) ∧ sps.length < n ∧
  ∀ H' h ss' os', h < n → h ∉ sps → (¬ Due ws lst a (hs.getD h 0) ∨ hs.getD h 0 ∈ ss') → Ex [sA, oA] H H' → LyH K CM CL H' ly fm ld hA sA oA mk kn kp ws lst hs ss' os' → LInv n ws lst a j hs ss' os' → os'.length ≤ os.length + 1 → Q (.int (h : Nat)) H'
theorem ok_free {f fD fL CM CL : Addr} {fd fdD fdL : FuncData} {k : Nat} (F : Fun K "free_hand" "Laying.free_hand" s_free_hand f fd) (T : TL K mg CL) (GD : FnOk P w K mg base CX0 k fD fdD ["self", "form", "at"] (spDue K CM CL)) (mD : Meth K CL "is_due" fD) (bD : Binds K fdD ["self", "form", "at"] []) (GL : FnOk P w K mg base CX0 k fL fdL ["self", "hand", "at"] (spLay K CM CL)) (mL : Meth K CL "lay" fL) (bL : Binds K fdL ["self", "hand", "at"] []) (m_range : mg "range" = none) (m_len : mg "len" = none) (m_max : mg "max" = none) : FnOk P w K mg base CX0 (k + 1) f fd ["self", "at", "spared"] (spFree K CM CL) := by
  refine F.ok sc_free_hand (fun vs H Q E h => ?_) (fun cdv A outer s H vs Q E hr h => ?_)
  · obtain ⟨ly, fm, ld, hA, sA, oA, mk, kn, kp, sp, ws, lst, hs, ss, sps, os, n, a, j, rfl, _⟩ := h; rfl
  · obtain ⟨ly, fm, ld, hA, sA, oA, mk, kn, kp, sp, ws, lst, hs, ss, sps, os, n, a, j, rfl, L, I, hj, hol, hn20, hsp, hspl, q⟩ := h
    refine ⟨_, (pss_cons (ps_setLc (i := 3) (own := [("hand", 4)]) (g := gName 4) rfl sc_free_hand.nd rfl rfl (sw_true rfl rfl rfl (by decide +kernel)) (pi_range1 (by rfl) m_range (pa_cons (pe_callB call_len_seq (by rfl) m_len PySem.boot_len (pa_cons (pe_fld (pv 0) rfl) pa_nil)) pa_nil)) (blkOk_by (N := n_free_hand) (sc := defScope s_free_hand) (by decide +kernel)) (fun _ _ _ _ _ => pg_name (i := 4) sc_free_hand.nd rfl (Or.inl rfl)) (fun _ _ _ _ _ => pts_one (pt_cmpR (op_notIn_seqK (K := K) rfl) (pv 4) (pv 2) rfl)) (fun _ _ _ _ _ => (pv 4)))
      (pss_cons (ps_for PassesOwn.never rfl (pi_list (pv 3)) (pg_name (i := 4) sc_free_hand.nd rfl (.inl rfl)) (pss_cons (ps_set (i := 5) sc_free_hand.nd rfl (.inl rfl) (pe_ix ix_list (pe_fld (pv 0) rfl) (pv 4) (fun _ _ => rfl)))
      (pss_one (ps_if (PW.pt (pw_or (pt_not (pt_val (pe_meth (pv 0) T.cl mD GD hr bD .nil pass0 (pa_cons (pv 5) (pa_cons (pv 1) pa_nil))))) (pw_or1 (pt_cmpR op_in_seq (pv 5) (pe_fld (pv 0) rfl) rfl)))) (pss_one (ps_ret (pv 4))) pss_nil))))
      (pss_cons (ps_set (i := 4) sc_free_hand.nd rfl (.inl rfl) (pe_ix ix_tup (pe_callB (cr_maxL (K := K) rfl rfl hr.units) (by rfl) m_max (by decide +kernel) (pa_cons (pe_lc (own := [("one", 6)]) (g := gName 6) (tt := tYes) rfl sc_free_hand.nd (pi_list (pv 3)) (blkOk_by (N := n_free_hand) (sc := defScope s_free_hand) (by decide +kernel)) (fun _ _ _ _ _ => pg_name (i := 6) sc_free_hand.nd rfl (Or.inl rfl)) (fun _ _ _ _ _ => pts_nil) (fun _ _ _ _ _ => (pe_tup (pa_cons (pe_dget (hu_of hr) (pe_fldK (K := K) rfl (pv 0) rfl) (pe_ix (ix_listK (K := K) rfl) (pe_fldK (K := K) rfl (pv 0) rfl) (pv 6) (fun _ _ => rfl)) (fun _ _ => rfl)) (pa_cons (pv 6) pa_nil))))) pa_nil)) pe_int (fun _ _ => rfl)))
      (pss_cons (ps_expr (pe_meth (pv 0) T.cl mL GL hr bL .nil pass0 (pa_cons (pv 4) (pa_cons (pv 1) pa_nil))))
      (pss_one (ps_ret (pv 4))))))), ?_⟩
    obtain ⟨⟨dx, fs, h1, h2, h3, h4, h5, h6, m1, m2, m3, r⟩, hF, ⟨kvs, hk1, hk2⟩, hh, hS, ⟨us, ho, hus⟩, nd⟩ := id L
    have fl : ∀ l : List Nat, ((l.map fun n : Nat => V.int n).all flatV) = true := fun l => by rw [List.all_eq_true]; intro x hx; obtain ⟨n, _, rfl⟩ := List.mem_map.mp hx; rfl
    have lh := I.hl
    refine ⟨.ref ly, rfl, ly, CL, dx, fs, .ref hA, rfl, h1, T.cl, T.n2, h4, hA, _, rfl, .inl (.of hh), (hs.map fun n : Nat => V.int n).length, rfl, by omega, by rw [List.length_map]; omega, fun C nC => ?_⟩
    obtain ⟨yC, hC⟩ := nw46 (o := .lst []) nC
    refine lc_range (lo := 0) (n := (((hs.map fun n : Nat => V.int n).length : Nat) : Int).toNat) (fun i H2 => ∃ cs : List Nat, H2 C = some (.lst (cs.map fun n : Nat => V.int n)) ∧ cs.length ≤ i ∧ (∀ h ∈ cs, h < i ∧ h ∉ sps) ∧ (∀ h, h < i → h ∉ sps → h ∈ cs) ∧ Ex [C] (upd H C (.lst [])) H2) ⟨[], hC, Nat.le_refl _, by simp, fun h hh => by omega, .refl⟩ ?_ ?_
    · rintro i H2 hi ⟨cs, hC2, lc, f1, f2, x2⟩
      have hi : i < (hs.map fun n : Nat => V.int n).length := hi
      rw [List.length_map, lh] at hi
      have x02 : Ex [] H H2 := Ex.own nC yC x2
      refine ⟨rfl, .int (0 + (i : Int)), rfl, .ref sp, rfl, sp, _, rfl, .inl (x02.seqL hsp), rfl, fl sps, _, rfl, ?_⟩
      rw [Int.zero_add]
      show if (!inV (V.int (i : Int)) (sps.map fun n : Nat => V.int n)) = true then _ else _
      rw [inV_int]
      by_cases m : i ∈ sps
      · rw [decide_eq_true m]
        exact iteF ⟨cs, hC2, by omega, fun h hm => ⟨by have := (f1 h hm).1; omega, (f1 h hm).2⟩, fun h hl hn => by
          by_cases e : h = i
          · rw [e] at hn; exact absurd m hn
          · exact f2 h (by omega) hn, x2⟩
      · rw [decide_eq_false m]
        refine iteT ⟨_, rfl, _, hC2, by rw [List.length_map]; exact Nat.lt_of_lt_of_le (show cs.length < 100 by omega) (by decide), cs ++ [i], by rw [upd_same, List.map_append]; rfl, by rw [List.length_append, List.length_singleton]; omega, fun h hm => ?_, fun h hl hn => ?_, x2.trans (.put hC2 nt_lst (by simp))⟩
        · rcases List.mem_append.mp hm with z | z
          · exact ⟨by have := (f1 h z).1; omega, (f1 h z).2⟩
          · rw [List.mem_singleton.mp z]; exact ⟨by omega, m⟩
        · by_cases e : h = i
          · rw [e]; simp
          · exact List.mem_append_left _ (f2 h (by omega) hn)
    rintro H2 ⟨cs, hC2, lc, f1, f2, x2⟩
    have x02 : Ex [] H H2 := Ex.own nC yC x2
    have en : (((hs.map fun n : Nat => V.int n).length : Nat) : Int).toNat = n := by rw [List.length_map, lh]; rfl
    rw [en] at lc f1 f2
    have L2' := L.mono x02
    refine ⟨.ref C, rfl, C, rfl, ⟨_, .of hC2⟩, ?_⟩
    refine for_list (K := K) (a := C) (xs := cs.map fun n : Nat => V.int n) (fun i σ H3 => ∃ (z4 z5 : Option V), σ = [some (.ref ly), some (.int a), some (.ref sp), some (.ref C), z4, z5, none] ∧ Ex [] H2 H3 ∧ ∀ h ∈ cs.take i, Due ws lst a (hs.getD h 0) ∧ hs.getD h 0 ∉ ss) ⟨_, _, rfl, .refl, by simp⟩ (fun i σ H3 _ ⟨_, _, _, x, _⟩ => .of (x.lst hC2)) ?_ ?_
    · rintro i v9 σ H3 hx ⟨z4, z5, rfl, x3, al⟩
      rw [List.getElem?_map] at hx
      obtain ⟨o1, hc', rfl⟩ := Option.map_eq_some_iff.mp hx
      obtain ⟨on, ons⟩ := f1 o1 (List.mem_of_getElem? hc')
      have L3 := L2'.mono x3
      obtain ⟨⟨dx3, fs3, g1, g2, g3, g4, g5, g6, gm1, gm2, gm3, gr⟩, gF, ⟨kvs3, gk1, gk2⟩, gh, gS, _⟩ := id L3
      have ol : o1 < hs.length := by omega
      have hat : atI (hs.map fun n : Nat => V.int n) (o1 : Int) = some (.int (hs.getD o1 0)) := atI_nat (by rw [List.getElem?_map, List.getD_eq_getElem?_getD, List.getElem?_eq_getElem ol]; rfl)
      have lf := I.hb _ (getD_mem (l := hs) (d := 0) ol)
      refine ⟨.ref ly, rfl, ly, CL, dx3, fs3, .ref hA, rfl, g1, T.cl, T.n2, g4, .int o1, rfl, hA, _, o1, _, rfl, rfl, .of gh, hat, ?_⟩
      refine ⟨.ref ly, rfl, ly, dx3, fs3, rfl, g1, gm2, .int (hs.getD o1 0), rfl, .int a, rfl, ly, fm, ld, hA, sA, oA, mk, kn, kp, tb ws, lst, kvs3, hs.getD o1 0, a, rfl, L3.i, gF, lf, gk1, gk2, _, rfl, ?_⟩
      cases e : dueB (tb ws) lst a (hs.getD o1 0) with
      | false =>
        have nd1 : ¬ Due ws lst a (hs.getD o1 0) := fun z => by rw [(dueB_iff lf).mpr z] at e; cases e
        exact iteT (iteT ⟨.int o1, rfl, q H3 o1 ss os on ons (.inl nd1) (x02.trans x3).nil L3 I (by omega)⟩)
      | true =>
        have du := (dueB_iff lf).mp e
        refine iteF ⟨.int (hs.getD o1 0), rfl, .ref ly, rfl, ly, CL, dx3, fs3, .ref sA, rfl, g1, T.cl, T.n3, g5, sA, _, rfl, .inl (.of gS), rfl, fl ss, _, rfl, ?_⟩
        have hk' : (if false = true then !inV (V.int ((hs.getD o1 0 : Nat) : Int)) (ss.map fun n : Nat => V.int n) else inV (V.int ((hs.getD o1 0 : Nat) : Int)) (ss.map fun n : Nat => V.int n)) = decide (hs.getD o1 0 ∈ ss) := inV_int
        rw [hk']
        by_cases m : hs.getD o1 0 ∈ ss
        · rw [decide_eq_true m]
          exact iteT ⟨.int o1, rfl, q H3 o1 ss os on ons (.inr m) (x02.trans x3).nil L3 I (by omega)⟩
        · rw [decide_eq_false m]
          refine iteF ⟨_, _, rfl, x3, fun h hm => ?_⟩
          rw [List.take_add_one, hc'] at hm
          rcases List.mem_append.mp hm with z | z
          · exact al h z
          · have : h = o1 := by simpa using z
            rw [this]; exact ⟨du, m⟩
    · rintro σ H3 ⟨z4, z5, rfl, x3, al⟩
      rw [List.length_map, List.take_length] at al
      have L3 := L2'.mono x3
      have hC3 := x3.lst hC2
      have c0 : 0 < cs.length := by
        rcases Nat.eq_zero_or_pos cs.length with z | z
        · exfalso
          have e0 := List.length_eq_zero_iff.mp z
          have := nd_len (List.range n) sps List.nodup_range fun h hm => Classical.byContradiction fun y => by
            have := f2 h (List.mem_range.mp hm) y
            rw [e0] at this; cases this
          rw [List.length_range] at this
          omega
        · exact z
      refine ⟨.ref C, rfl, C, rfl, ⟨_, .of hC3⟩, fun M nM => ?_⟩
      obtain ⟨yM, hM⟩ := nw46 (o := .lst []) nM
      refine lc_it (walk_list (K := K) (a := C) (xs := cs.map fun n : Nat => V.int n)) (fun i H4 => ∃ (ts : List V) (ps : List (Int × Int)), H4 M = some (.lst ts) ∧ P2 (PrH H4) ts ps ∧ ts.length = i ∧ (∀ p ∈ ps, ∃ o1 ∈ cs, p.2 = ((o1 : Nat) : Int)) ∧ Ex [M] (upd H3 M (.lst [])) H4) ⟨[], [], hM, .nil, rfl, by simp, .refl⟩ ?_ ?_ ?_
      · rintro i H4 _ ⟨ts, ps, _, _, _, _, x4⟩
        exact .of (x4.lst (yM.lst hC3) (by simpa using ne_of_none hC3 nM))
      · rintro i v9 H0 H4 hi ⟨ts, ps, hM4, p4, l4, f4, x4⟩ ⟨rfl, hx⟩
        rw [List.getElem?_map] at hx
        obtain ⟨o1, hc', rfl⟩ := Option.map_eq_some_iff.mp hx
        have om := List.mem_of_getElem? hc'
        obtain ⟨on, ons⟩ := f1 o1 om
        obtain ⟨⟨nn, l, el, _⟩, _⟩ := al o1 om
        have L4 := L3.mono (Ex.own nM yM x4)
        obtain ⟨⟨dx3, fs3, g1, g2, g3, g4, g5, g6, gm1, gm2, gm3, gr⟩, gF, ⟨kvs3, gk1, gk2⟩, gh, gS, _⟩ := id L4
        have ol : o1 < hs.length := by omega
        have hat : atI (hs.map fun n : Nat => V.int n) (o1 : Int) = some (.int (hs.getD o1 0)) := atI_nat (by rw [List.getElem?_map, List.getD_eq_getElem?_getD, List.getElem?_eq_getElem ol]; rfl)
        have g := DGet.k (k := .inl ((hs.getD o1 0 : Nat) : Int)) gk1
        rw [gk2 (hs.getD o1 0), el] at g
        refine ⟨rfl, tyes_if ?_⟩
        refine ⟨.ref ly, rfl, ly, CL, dx3, fs3, .ref ld, rfl, g1, T.cl, T.n1, g3, .ref ly, rfl, ly, CL, dx3, fs3, .ref hA, rfl, g1, T.cl, T.n2, g4, .int o1, rfl, hA, _, o1, _, rfl, rfl, .of gh, hat, ld, .int l, rfl, g, .int o1, rfl, (by show 2 ≤ sizeLine; decide), fun tt ntt => ?_⟩
        obtain ⟨y5, h5'⟩ := nw46 (o := .tup [V.int l, .int o1]) ntt
        have hM5 := y5.lst hM4
        have li : i < cs.length := by simpa using hi
        have xp : Ex [M] (upd H4 tt (.tup [V.int l, .int o1])) (upd (upd H4 tt (.tup [V.int l, .int o1])) M (.lst (ts ++ [.ref tt]))) := .put hM5 nt_lst (by simp)
        refine ⟨ts, hM5, Nat.lt_of_lt_of_le (show ts.length < 100 by omega) (by decide), ts ++ [.ref tt], ps ++ [(((l : Nat) : Int), ((o1 : Nat) : Int))], upd_same, ?_, by rw [List.length_append, l4]; rfl, fun p hp => ?_, (x4.trans y5.nil).trans xp⟩
        · exact ((p4.imp fun _ _ z => z.ex y5).app (.cons ⟨tt, rfl, h5'⟩ .nil)).imp fun _ _ z => z.ex xp
        · rcases List.mem_append.mp hp with z | z
          · exact f4 p z
          · rw [List.mem_singleton.mp z]; exact ⟨o1, om, rfl⟩
      rintro H4 ⟨ts, ps, hM4, p4, l4, f4, x4⟩
      rw [List.length_map] at l4
      refine ⟨M, ts, ps, rfl, .of hM4, by omega, pr_dps p4, fun x hx => ?_⟩
      obtain ⟨ix, hix, exx⟩ := List.getElem_of_mem hx
      have hx2 : ts[ix]? = some x := by rw [List.getElem?_eq_getElem hix, exx]
      obtain ⟨p, hp1, t, rfl, ht⟩ := p4.getL hx2
      obtain ⟨o1, om, ep⟩ := f4 p (List.mem_of_getElem? hp1)
      rw [ep] at ht
      obtain ⟨on, ons⟩ := f1 o1 om
      obtain ⟨du, ni⟩ := al o1 om
      have x34 : Ex [] H3 H4 := Ex.own nM yM x4
      have L4 := L3.mono x34
      obtain ⟨⟨dx3, fs3, g1, g2, g3, g4, g5, g6, gm1, gm2, gm3, gr⟩, _⟩ := id L4
      refine ⟨t, _, 1, _, rfl, rfl, .of ht, atI_nat (j := 1) rfl, ?_⟩
      refine ⟨.ref ly, rfl, ly, dx3, fs3, rfl, g1, gm3, .int o1, rfl, .int a, rfl, ly, fm, ld, hA, sA, oA, mk, kn, kp, ws, lst, hs, ss, os, n, o1, a, j, rfl, L4, I, on, hj, hol, fun H5 s0 s60 sd x5 L5 => ?_⟩
      exact ⟨.int o1, rfl, q H5 o1 _ _ on ons (.inr (set_new (by rw [I.sl]; exact s60))) (((x02.trans x3).trans x34).nil.trans x5) L5 (I.lay on s60 sd ni) (by rw [List.length_append]; simp)⟩
end
end K48

set_option maxHeartbeats 8000000
set_option pp.maxSteps 400
set_option pp.deepTerms false
namespace K48
open PySem PySem.Spec PyProof.Rows L2 Kk RZ
abbrev s_put_in_hand : Stmt := inClass (topS 30) 9
abbrev n_put_in_hand : List Str := ["self", "kind", "rest", "form", "at", "hand"]
theorem sc_put_in_hand : FnScope n_put_in_hand ["self", "kind", "rest", "form", "at"] (defScope s_put_in_hand) := ⟨rfl, rfl, rfl, by decide +kernel, rfl, by decide +kernel, by decide +kernel⟩
section
variable {P : Program} {w : World} {K : PySem.W.Frag} {mg : Str → Option Value} {base : Heap}
def spPutIn (K : PySem.W.Frag) (CM CL : Addr) : Sp := fun vs H Q _ => ∃ (ly fm ld hA sA oA mk kn kp rp : Addr) (ws : List Wo) (lst : Nat → Option Nat) (hs ss : List Nat) (os : List Or) (n a j p : Nat) (kd : Str) (rv : List V) (mkO : Nat → Or), vs = [.ref ly, .str kd, .ref rp, .int p, .int a] ∧ LyH K CM CL H ly fm ld hA sA oA mk kn kp ws lst hs ss os ∧ LInv n ws lst (a + 1) j hs ss os ∧ j < 60 ∧ os.length ≤ 4990 ∧ n ≤ 20 ∧ 0 < n ∧
  (∀ H', Ex [sA, oA] H H' → SqT K H' rp rv ∨ SqL K H' rp rv) ∧ rv.length ≤ 3 ∧ (∀ H' t h, H' t = some (.tup (.str kd :: .int (h : Nat) :: rv)) → OrH K H' (.ref t) (mkO h)) ∧
  (∀ h ss' os', h < n → (¬ Due ws lst (a + 1) (hs.getD h 0) ∨ hs.getD h 0 ∈ ss') → LInv n ws lst (a + 1) j hs ss' os' → LInv n ws lst (a + 1) (j + 1) (hs.set h p) ss' (os' ++ [mkO h])) ∧
  ∀ H' h ss' os', Ex [hA, sA, oA] H H' → LyH K CM CL H' ly fm ld hA sA oA mk kn kp ws lst (hs.set h p) ss' os' → LInv n ws lst (a + 1) (j + 1) (hs.set h p) ss' os' → os'.length ≤ os.length + 2 → Q .non H'
theorem ok_put_in {f fF CM CL : Addr} {fd fdF : FuncData} {k : Nat} (F : Fun K "put_in_hand" "Laying.put_in_hand" s_put_in_hand f fd) (T : TL K mg CL) (GF : FnOk P w K mg base CX0 k fF fdF ["self", "at", "spared"] (spFree K CM CL)) (mF : Meth K CL "free_hand" fF) (bF : Binds K fdF ["self", "at", "spared"] []) : FnOk P w K mg base CX0 (k + 1) f fd ["self", "kind", "rest", "form", "at"] (spPutIn K CM CL) := by
  refine F.ok sc_put_in_hand (fun vs H Q E h => ?_) (fun cdv A outer s H vs Q E hr h => ?_)
  · obtain ⟨ly, fm, ld, hA, sA, oA, mk, kn, kp, rp, ws, lst, hs, ss, os, n, a, j, p, kd, rv, mkO, rfl, _⟩ := h; rfl
  · obtain ⟨ly, fm, ld, hA, sA, oA, mk, kn, kp, rp, ws, lst, hs, ss, os, n, a, j, p, kd, rv, mkO, rfl, L, I, hj, hol, hn20, hn0, hrv, hrl, hmk, hst, q⟩ := h
    refine ⟨_, (pss_cons (ps_set (i := 5) sc_put_in_hand.nd rfl (.inl rfl) (pe_meth (pv 0) T.cl mF GF hr bF .nil pass0 (pa_cons (pe_op op_add (pv 4) pe_int) (pa_cons (pe_lst pa_nil) pa_nil))))
      (pss_cons (ps_expr (pe_bm PySem.F.plainAttrs_list PySem.F.slot_list_append PySem.F.type_list_append mt_append (pe_fld (pv 0) rfl) (pa_cons (pe_tup (pa_cons (pv 1) (pa_cons (pv 5) (StX.pa_star (pv 2) pa_nil)))) pa_nil)))
      (pss_one (ps_asg (pv 3) (pg_sub (pe_fld (pv 0) rfl) (pv 5) set_list))))), ?_⟩
    obtain ⟨⟨dx, fs, h1, h2, h3, h4, h5, h6, m1, m2, m3, m4, r⟩, _⟩ := id L
    have nd := L.n
    have nd' := nd
    simp only [List.nodup_cons, List.mem_cons, List.not_mem_nil, or_false, not_or] at nd'
    obtain ⟨⟨a1, a2, a3, a4, a5, a6, a7, a8⟩, ⟨b1, b2, b3, b4, b5, b6, b7⟩, ⟨c1, c2, c3, c4, c5, c6⟩, ⟨d1, d2, d3, d4, d5⟩, ⟨e1, e2, e3, e4⟩, ⟨f1', f2', f3'⟩, _⟩ := nd'
    refine ⟨.ref ly, rfl, ly, dx, fs, rfl, h1, m4, .int a, rfl, a, 1, rfl, rfl, (by show 0 ≤ sizeLine; decide), fun E0' nE => ?_⟩
    obtain ⟨yE, hE⟩ := nw46 (o := .lst []) nE
    refine ⟨ly, fm, ld, hA, sA, oA, mk, kn, kp, E0', ws, lst, hs, ss, [], os, n, a + 1, j, rfl, L.mono yE, I, hj, by omega, hn20, .of hE, by simpa using hn0, fun H2 h ss' os' hn _ dr x2 L2' I2 lo2 => ?_⟩
    obtain ⟨⟨dx2, fs2, g1, g2, g3, g4, g5, g6, gr⟩, gF, gk, gh, gS, ⟨us2, go, gus⟩, _⟩ := id L2'
    have x02 : Ex [sA, oA] H H2 := yE.nil.trans x2
    have hl : h < hs.length := by rw [I.hl]; exact hn
    refine ⟨.ref ly, rfl, ly, CL, dx2, fs2, .ref oA, rfl, g1, T.cl, T.n4, g6, .inl ⟨rfl, _, .of go⟩, .str kd, rfl, .int h, rfl, .ref rp, rfl, rp, rv, rfl, hrv H2 x02, ?_⟩
    refine ⟨Nat.le_trans (show (V.str kd :: V.int (h : Nat) :: (rv ++ [])).length ≤ 10 by simp; omega) (by decide), fun tt ntt => ?_⟩
    obtain ⟨y4, h4'⟩ := nw46 (o := .tup (V.str kd :: V.int (h : Nat) :: (rv ++ []))) ntt
    have ho' : OrH K (upd H2 tt (.tup (V.str kd :: V.int (h : Nat) :: (rv ++ [])))) (.ref tt) (mkO h) := hmk _ tt h (by rw [h4', List.append_nil])
    have go4 := y4.lst go
    have lus : us2.length = os'.length := gus.len
    refine ⟨oA, us2, .ref tt, rfl, rfl, go4, Nat.lt_of_le_of_lt (show us2.length ≤ 5000 by omega) (by decide), ?_⟩
    have x5 : Ex [oA] (upd H2 tt (.tup (V.str kd :: V.int (h : Nat) :: (rv ++ [])))) (upd (upd H2 tt (.tup (V.str kd :: V.int (h : Nat) :: (rv ++ [])))) oA (.lst (us2 ++ [.ref tt]))) := .put go4 nt_lst (by simp)
    have hO5 : (upd (upd H2 tt (.tup (V.str kd :: V.int (h : Nat) :: (rv ++ [])))) oA (.lst (us2 ++ [.ref tt]))) oA = some (.lst (us2 ++ [.ref tt])) := upd_same
    have pO5 : P2 (OrH K (upd (upd H2 tt (.tup (V.str kd :: V.int (h : Nat) :: (rv ++ [])))) oA (.lst (us2 ++ [.ref tt])))) (us2 ++ [.ref tt]) (os' ++ [mkO h]) := ((gus.imp fun _ _ z => Tp.ex (e := y4) z).app (.cons ho' .nil)).imp fun _ _ z => Tp.ex (e := x5) z
    have x25 : Ex [oA] H2 (upd (upd H2 tt (.tup (V.str kd :: V.int (h : Nat) :: (rv ++ [])))) oA (.lst (us2 ++ [.ref tt]))) := y4.nil.trans x5
    generalize upd (upd H2 tt (.tup (V.str kd :: V.int (h : Nat) :: (rv ++ [])))) oA (.lst (us2 ++ [.ref tt])) = H5 at hO5 pO5 x25 ⊢
    have hh5 := x25.lst gh (by simpa using d2)
    refine ⟨.int p, rfl, .ref ly, rfl, ly, CL, dx2, fs2, .ref hA, rfl, x25.a ly _ (by simpa using a5) g1 (fun _ z => by cases z), T.cl, T.n2, g4, .int h, rfl, hA, _, h, h, rfl, rfl, hh5, by rw [List.length_map]; exact ixN_of (by omega) (by omega), ?_⟩
    have x6 : Ex [hA] H5 (upd H5 hA (.lst ((hs.map fun n : Nat => V.int n).set h (.int p)))) := .put hh5 nt_lst (by simp)
    have x26 := (x25.mono (ys := [hA, oA]) (by simp)).trans (x6.mono (ys := [hA, oA]) (by simp))
    refine q _ h ss' (os' ++ [mkO h]) ((x02.mono (by simp)).trans (x26.mono (by simp))) (L2'.upd (x26.mono (by simp)) (by rw [upd_same, List.map_set]) (x26.lst gS (by simp [Ne.symm d1, e1])) ⟨_, x6.lst hO5 (by simpa using Ne.symm d2), pO5.imp fun _ _ z => Tp.ex (e := x6) z⟩) (hst h ss' os' hn dr I2) (by rw [List.length_append, List.length_singleton]; omega)
end
end K48

set_option maxHeartbeats 8000000
set_option pp.maxSteps 400
set_option pp.deepTerms false
namespace K48
open PySem PySem.Spec PyProof.Rows L2 Kk RZ
abbrev s_hands_with : Stmt := inClass (topS 30) 6
abbrev n_hands_with : List Str := ["self", "asked", "at", "form", "spared", "one"]
theorem sc_hands_with : FnScope n_hands_with ["self", "asked", "at"] (defScope s_hands_with) := ⟨rfl, rfl, rfl, by decide +kernel, rfl, by decide +kernel, by decide +kernel⟩
theorem mt_indexK {X : Cx} {K : PySem.W.Frag} (h : X.K = K) : MtR X "list.index" (rIndex K) := by subst h; exact mt_index
theorem pe_ixK {X : Cx} {K : PySem.W.Frag} (h : X.K = K) {o e : Expr} {to te : TE} {apos cpos : Pos} (ho : PE X o to) (he : PE X e te) (hbase : attributeBase o ("index" : Str) X.env (eval o X.env) = eval o X.env := by rfl)
    (hfew : ((backTo cpos (starEach [e] X.env)).all (fun x => !x.1) && (backToKw cpos (keywordEach [] X.env)).all (fun x => x.1.isSome)
      && decide ([e].length + ([] : List Keyword).length + (if ([] : List Keyword).isEmpty then 0 else 1) < 30)) = true := by rfl)
    (hline : (apos.endLine == cpos.line) = true := by rfl) (hs : starEach [e] X.env = (false, eval e X.env) :: starEach [] X.env := by rfl) (hplain : (backTo cpos (starEach [] X.env)).any (·.1) = false := by rfl) : PE X (.Call (.Attribute o ("index" : Str) apos) [e] [] cpos) (tBM K "list" (rIndex K) to (tCons te tNil)) := by
  subst h
  exact pe_bm PySem.F.plainAttrs_list PySem.F.slot_list_index PySem.F.type_list_index mt_index ho (pa_cons he pa_nil hs) hbase hfew hline hs hplain
section
variable {P : Program} {w : World} {K : PySem.W.Frag} {mg : Str → Option Value} {base : Heap}
def spHandsW (K : PySem.W.Frag) (CM CL : Addr) : Sp := fun vs H Q _ => ∃ (ly fm ld hA sA oA mk kn kp ap : Addr) (ws : List Wo) (lst : Nat → Option Nat) (hs ss asked : List Nat) (os : List Or) (n a j : Nat), vs = [.ref ly, .ref ap, .int a] ∧ LyH K CM CL H ly fm ld hA sA oA mk kn kp ws lst hs ss os ∧ LInv n ws lst a j hs ss os ∧ j < 60 ∧ os.length ≤ 4900 ∧ n ≤ 20 ∧ 3 ≤ n ∧ NumsOk ws ∧ SqT K H ap (asked.map fun n : Nat => V.int n) ∧ asked.length ≤ 2 ∧
  (∀ f ∈ asked, f < (tb ws).length ∧ (f = 0 ∨ ∃ i, i < j ∧ putAt ws i = some f) ∧ (NumF ws f ∨ Due ws lst a f)) ∧
  ∀ H' rp hs' ss' os' (is : List Nat), H rp = none → Ex [hA, sA, oA] H H' → LyH K CM CL H' ly fm ld hA sA oA mk kn kp ws lst hs' ss' os' → LInv n ws lst a j hs' ss' os' → H' rp = some (.lst (is.map fun n : Nat => V.int n)) → is.map (fun h => hs'.getD h 0) = asked → (∀ h ∈ is, h < n) → os'.length ≤ os.length + 4 → Q (.ref rp) H'
theorem ok_hands_with {f fF fT CM CL : Addr} {fd fdF fdT : FuncData} {k : Nat} (F : Fun K "hands_with" "Laying.hands_with" s_hands_with f fd) (T : TL K mg CL) (GF : FnOk P w K mg base CX0 k fF fdF ["self", "at", "spared"] (spFree K CM CL)) (mF : Meth K CL "free_hand" fF) (bF : Binds K fdF ["self", "at", "spared"] []) (GT : FnOk P w K mg base CX0 k fT fdT ["self", "form", "hand"] (spFetch K CM CL)) (mT : Meth K CL "fetch" fT) (bT : Binds K fdT ["self", "form", "hand"] []) : FnOk P w K mg base CX0 (k + 1) f fd ["self", "asked", "at"] (spHandsW K CM CL) := by
  refine F.ok sc_hands_with (fun vs H Q E h => ?_) (fun cdv A outer s H vs Q E hr h => ?_)
  · obtain ⟨ly, fm, ld, hA, sA, oA, mk, kn, kp, ap, ws, lst, hs, ss, asked, os, n, a, j, rfl, _⟩ := h; rfl
  · obtain ⟨ly, fm, ld, hA, sA, oA, mk, kn, kp, ap, ws, lst, hs, ss, asked, os, n, a, j, rfl, L, I, hj, hol, hn20, hn3, nums, hap, hal, hask, q⟩ := h
    refine ⟨_, (pss_cons (ps_for PassesOwn.never rfl (pi_tup (pv 1)) (pg_name (i := 3) sc_hands_with.nd rfl (.inl rfl)) (pss_one (ps_if (pt_cmpR op_notIn_seq (pv 3) (pe_fld (pv 0) rfl) rfl) (pss_cons (ps_setLc (i := 4) (own := [("one", 5)]) (g := gName 5) rfl sc_hands_with.nd rfl rfl (sw_true rfl rfl rfl (by decide +kernel)) (pi_tup (pv 1)) (blkOk_by (N := n_hands_with) (sc := defScope s_hands_with) (by decide +kernel)) (fun _ _ _ _ _ => pg_name (i := 5) sc_hands_with.nd rfl (Or.inl rfl)) (fun _ _ _ _ _ => pts_one (pt_cmpR (op_in_seqK (K := K) rfl) (pv 5) (pe_fldK (K := K) rfl (pv 0) rfl) rfl)) (fun _ _ _ _ _ => (pe_ixK (K := K) rfl (pe_fldK (K := K) rfl (pv 0) rfl) (pv 5))))
      (pss_one (ps_expr (pe_meth (pv 0) T.cl mT GT hr bT .nil pass0 (pa_cons (pv 3) (pa_cons (pe_meth (pv 0) T.cl mF GF hr bF .nil pass0 (pa_cons (pv 2) (pa_cons (pv 4) pa_nil))) pa_nil)))))) pss_nil)))
      (pss_one (ps_ret (pe_lc (own := [("form", 3)]) (g := gName 3) (tt := tYes) rfl sc_hands_with.nd (pi_tup (pv 1)) (blkOk_by (N := n_hands_with) (sc := defScope s_hands_with) (by decide +kernel)) (fun _ _ _ _ _ => pg_name (i := 3) sc_hands_with.nd rfl (Or.inl rfl)) (fun _ _ _ _ _ => pts_nil) (fun _ _ _ _ _ => (pe_ixK (K := K) rfl (pe_fldK (K := K) rfl (pv 0) rfl) (pv 3))))))), ?_⟩
    have fl : ∀ l : List Nat, ((l.map fun n : Nat => V.int n).all flatV) = true := fun l => by rw [List.all_eq_true]; intro x hx; obtain ⟨n, _, rfl⟩ := List.mem_map.mp hx; rfl
    have eqm : ∀ {x f : Nat}, x ≠ f → eqV (V.int (x : Int)) (V.int (f : Int)) = false := fun {x f} ne => by
      show ((x : Int) == (f : Int)) = false
      rw [beq_eq_false_iff_ne]; omega
    refine ⟨.ref ap, rfl, ap, rfl, ⟨_, hap⟩, ?_⟩
    refine for_tup (K := K) (a := ap) (xs := asked.map fun n : Nat => V.int n) (fun i σ H2 => ∃ (z3 z4 : Option V) (hs' ss' : List Nat) (os' : List Or), σ = [some (.ref ly), some (.ref ap), some (.int a), z3, z4, none] ∧ LyH K CM CL H2 ly fm ld hA sA oA mk kn kp ws lst hs' ss' os' ∧ LInv n ws lst a j hs' ss' os' ∧ (∀ g ∈ asked.take i, g ∈ hs') ∧ os'.length ≤ os.length + 2 * i ∧ Ex [hA, sA, oA] H H2) ⟨_, _, hs, ss, os, rfl, L, I, by simp, Nat.le_refl _, .refl⟩ (fun i σ H2 _ ⟨_, _, _, _, _, _, _, _, _, _, x⟩ => x.seqT hap) ?_ ?_
    · rintro i v9 σ H2 hx ⟨z3, z4, hs', ss', os', rfl, L2', I2, al, lo2, x2⟩
      rw [List.getElem?_map] at hx
      obtain ⟨g, hg, rfl⟩ := Option.map_eq_some_iff.mp hx
      have il : i < 2 := Nat.lt_of_lt_of_le (List.getElem?_eq_some_iff.mp hg).1 hal
      obtain ⟨gl, gm, gd⟩ := hask g (List.mem_of_getElem? hg)
      obtain ⟨⟨dx, fs, h1, h2, h3, h4, h5, h6, m1, m2, m3, m4, m5, r⟩, hF, hk, hh, hS, ho, _⟩ := id L2'
      refine ⟨.int g, rfl, .ref ly, rfl, ly, CL, dx, fs, .ref hA, rfl, h1, T.cl, T.n2, h4, hA, _, rfl, .inl (.of hh), rfl, fl hs', _, rfl, ?_⟩
      have hk' : (if true = true then !inV (V.int (g : Int)) (hs'.map fun n : Nat => V.int n) else inV (V.int (g : Int)) (hs'.map fun n : Nat => V.int n)) = !decide (g ∈ hs') := by rw [if_pos rfl, inV_int]
      rw [hk']
      by_cases m : g ∈ hs'
      · rw [decide_eq_true m]
        refine iteF ⟨_, _, hs', ss', os', rfl, L2', I2, fun y hy => ?_, by omega, x2⟩
        rw [List.take_add_one, hg] at hy
        rcases List.mem_append.mp hy with z | z
        · exact al y z
        · have : y = g := by simpa using z
          rw [this]; exact m
      · rw [decide_eq_false m]
        refine iteT ⟨.ref ap, rfl, ap, rfl, ⟨_, x2.seqT hap⟩, fun S nS => ?_⟩
        obtain ⟨yS, hS0⟩ := nw46 (o := .lst []) nS
        refine lc_it (walk_tup (K := K) (a := ap) (xs := asked.map fun n : Nat => V.int n)) (fun i' H3 => ∃ sp : List Nat, H3 S = some (.lst (sp.map fun n : Nat => V.int n)) ∧ sp.length ≤ i' ∧ (∀ s ∈ sp, s < n) ∧ (∀ y ∈ asked.take i', y ∈ hs' → ∃ s ∈ sp, hs'.getD s 0 = y) ∧ Ex [S] (upd H2 S (.lst [])) H3) ⟨[], hS0, Nat.le_refl _, by simp, by simp, .refl⟩ ?_ ?_ ?_
        · rintro i' H3 _ ⟨sp, _, _, _, _, x3⟩
          exact x3.seqT (yS.seqT (x2.seqT hap))
        · rintro i' v9 H0 H3 hi' ⟨sp, hS3, ls, f1, f2, x3⟩ ⟨rfl, hx⟩
          rw [List.getElem?_map] at hx
          obtain ⟨y, hy, rfl⟩ := Option.map_eq_some_iff.mp hx
          have il' : i' < 2 := Nat.lt_of_lt_of_le (List.getElem?_eq_some_iff.mp hy).1 hal
          have L3 := L2'.mono (Ex.own nS yS x3)
          obtain ⟨⟨dx3, fs3, g1, g2, g3, g4, g5, g6, gr⟩, gF, gk, gh, _⟩ := id L3
          have tk : asked.take (i' + 1) = asked.take i' ++ [y] := by rw [List.take_add_one, hy]; rfl
          refine ⟨rfl, .int y, rfl, .ref ly, rfl, ly, CL, dx3, fs3, .ref hA, rfl, g1, T.cl, T.n2, g4, hA, _, rfl, .inl (.of gh), rfl, fl hs', _, rfl, ?_⟩
          have hk2 : (if false = true then !inV (V.int (y : Int)) (hs'.map fun n : Nat => V.int n) else inV (V.int (y : Int)) (hs'.map fun n : Nat => V.int n)) = decide (y ∈ hs') := inV_int
          rw [hk2]
          by_cases my : y ∈ hs'
          · rw [decide_eq_true my]
            obtain ⟨s0, w1, w2⟩ := first_ix my
            have sn : s0 < n := by rw [← I2.hl]; exact (List.getElem?_eq_some_iff.mp w1).1
            refine iteT ⟨.ref ly, rfl, ly, CL, dx3, fs3, .ref hA, rfl, g1, T.cl, T.n2, g4, .inl ⟨rfl, _, .of gh⟩, .int y, rfl, hA, _, .int y, s0, .int y, rfl, rfl, .of gh, rfl, fl hs', by rw [List.getElem?_map, w1]; rfl, by simp [eqV], fun m z' lm e => ?_, ?_⟩
            · rw [List.getElem?_map] at e
              obtain ⟨x, e1', e2'⟩ := Option.map_eq_some_iff.mp e
              subst e2'
              exact eqm fun q => w2 m lm (by rw [e1', q])
            · refine ⟨_, hS3, by rw [List.length_map]; exact Nat.lt_of_lt_of_le (show sp.length < 100 by omega) (by decide), sp ++ [s0], by rw [upd_same, List.map_append]; rfl, by rw [List.length_append, List.length_singleton]; omega, fun s hs9 => ?_, fun x hx9 hm9 => ?_, x3.trans (.put hS3 nt_lst (by simp))⟩
              · rcases List.mem_append.mp hs9 with z | z
                · exact f1 s z
                · rw [List.mem_singleton.mp z]; exact sn
              · rw [tk] at hx9
                rcases List.mem_append.mp hx9 with z | z
                · obtain ⟨s, u1, u2⟩ := f2 x z hm9
                  exact ⟨s, List.mem_append_left _ u1, u2⟩
                · rw [List.mem_singleton.mp z]
                  exact ⟨s0, by simp, by rw [List.getD_eq_getElem?_getD, w1]; rfl⟩
          · rw [decide_eq_false my]
            refine iteF ⟨sp, hS3, by omega, f1, fun x hx9 hm9 => ?_, x3⟩
            rw [tk] at hx9
            rcases List.mem_append.mp hx9 with z | z
            · exact f2 x z hm9
            · rw [List.mem_singleton.mp z] at hm9; exact absurd hm9 my
        rintro H3 ⟨sp, hS3, ls, f1, f2, x3⟩
        rw [List.length_map] at ls
        have x23 : Ex [] H2 H3 := Ex.own nS yS x3
        have L3 := L2'.mono x23
        rw [show (asked.map fun n : Nat => V.int n).length = asked.length from List.length_map _, List.take_length] at f2
        obtain ⟨⟨dx3, fs3, g1, g2, g3, g4, g5, g6, gm1, gm2, gm3, gm4, gm5, gr⟩, _⟩ := id L3
        refine ⟨.ref ly, rfl, ly, dx3, fs3, rfl, g1, gm5, .int g, rfl, .ref ly, rfl, ly, dx3, fs3, rfl, g1, gm4, .int a, rfl, .ref S, rfl, ly, fm, ld, hA, sA, oA, mk, kn, kp, S, ws, lst, hs', ss', sp, os', n, a, j, rfl, L3, I2, hj, by omega, hn20, .of hS3, by omega, fun H4 h ss4 os4 hn hns dr x4 L4 I4 lo4 => ?_⟩
        have has : NumF ws g ∨ g ∈ ss4 := by
          rcases gd with z | z
          · exact .inl z
          · rcases gm with e0 | ⟨i0, il0, ip⟩
            · rw [e0] at z; exact absurd z due_zero
            · exact .inr ((I4.av g i0 il0 ip z).resolve_left m)
        refine ⟨ly, fm, ld, hA, sA, oA, mk, kn, kp, ws, lst, hs', ss4, os4, n, h, g, a, j, rfl, L4, I4, hn, by omega, nums, dr, gl, gm, has, fun H5 o5 x5 L5 I5 => ?_⟩
        refine ⟨_, _, hs'.set h g, ss4, os4 ++ [o5], rfl, L5, I5, fun y hy => ?_, by rw [List.length_append, List.length_singleton]; omega, ((x2.trans x23.nil).trans (x4.mono (by simp))).trans (x5.mono (by simp))⟩
        have hl' : h < hs'.length := by rw [I2.hl]; exact hn
        rw [List.take_add_one, hg] at hy
        rcases List.mem_append.mp hy with z | z
        · obtain ⟨s, u1, u2⟩ := f2 y (List.mem_of_mem_take z) (al y z)
          have sh : s ≠ h := fun q => hns (by rw [← q]; exact u1)
          have e9 : (hs'.set h g).getD s 0 = y := by rw [getD_set hl', if_neg sh]; exact u2
          have m9 := getD_mem (l := hs'.set h g) (i := s) (d := 0) (by rw [List.length_set, I2.hl]; exact f1 s u1)
          rw [e9] at m9; exact m9
        · have : y = g := by simpa using z
          rw [this]; exact set_new hl'
    · rintro σ H2 ⟨z3, z4, hs', ss', os', rfl, L2', I2, al, lo2, x2⟩
      rw [List.length_map, List.take_length] at al
      rw [List.length_map] at lo2
      refine ⟨.ref ap, rfl, ap, rfl, ⟨_, x2.seqT hap⟩, fun R nR => ?_⟩
      obtain ⟨yR, hR⟩ := nw46 (o := .lst []) nR
      refine lc_it (walk_tup (K := K) (a := ap) (xs := asked.map fun n : Nat => V.int n)) (fun i' H3 => ∃ is : List Nat, H3 R = some (.lst (is.map fun n : Nat => V.int n)) ∧ is.map (fun h => hs'.getD h 0) = asked.take i' ∧ (∀ h ∈ is, h < n) ∧ Ex [R] (upd H2 R (.lst [])) H3) ⟨[], hR, by simp, by simp, .refl⟩ ?_ ?_ ?_
      · rintro i' H3 _ ⟨is, _, _, _, x3⟩
        exact x3.seqT (yR.seqT (x2.seqT hap))
      · rintro i' v9 H0 H3 hi' ⟨is, hR3, f1, f2, x3⟩ ⟨rfl, hx⟩
        rw [List.getElem?_map] at hx
        obtain ⟨y, hy, rfl⟩ := Option.map_eq_some_iff.mp hx
        have il' : i' < 2 := Nat.lt_of_lt_of_le (List.getElem?_eq_some_iff.mp hy).1 hal
        have L3 := L2'.mono (Ex.own nR yR x3)
        obtain ⟨⟨dx3, fs3, g1, g2, g3, g4, g5, g6, gr⟩, gF, gk, gh, _⟩ := id L3
        obtain ⟨s0, w1, w2⟩ := first_ix (al y (List.mem_of_getElem? hy))
        have sn : s0 < n := by rw [← I2.hl]; exact (List.getElem?_eq_some_iff.mp w1).1
        have lis : is.length ≤ 2 := by
          have := congrArg List.length f1
          rw [List.length_map, List.length_take] at this
          omega
        refine ⟨rfl, tyes_if ⟨.ref ly, rfl, ly, CL, dx3, fs3, .ref hA, rfl, g1, T.cl, T.n2, g4, .inl ⟨rfl, _, .of gh⟩, .int y, rfl, hA, _, .int y, s0, .int y, rfl, rfl, .of gh, rfl, fl hs', by rw [List.getElem?_map, w1]; rfl, by simp [eqV], fun m z' lm e => ?_, ?_⟩⟩
        · rw [List.getElem?_map] at e
          obtain ⟨x, e1', e2'⟩ := Option.map_eq_some_iff.mp e
          subst e2'
          exact eqm fun q => w2 m lm (by rw [e1', q])
        · refine ⟨_, hR3, by rw [List.length_map]; exact Nat.lt_of_lt_of_le (show is.length < 100 by omega) (by decide), is ++ [s0], by rw [upd_same, List.map_append]; rfl, ?_, fun h hm => ?_, x3.trans (.put hR3 nt_lst (by simp))⟩
          · rw [List.map_append, f1, List.take_add_one, hy]
            show _ ++ [hs'.getD s0 0] = _ ++ [y]
            rw [List.getD_eq_getElem?_getD, w1]; rfl
          · rcases List.mem_append.mp hm with z | z
            · exact f2 h z
            · rw [List.mem_singleton.mp z]; exact sn
      rintro H3 ⟨is, hR3, f1, f2, x3⟩
      rw [show (asked.map fun n : Nat => V.int n).length = asked.length from List.length_map _, List.take_length] at f1
      have x23 : Ex [] H2 H3 := Ex.own nR yR x3
      exact q H3 R hs' ss' os' is (x2.f _ nR) (x2.trans x23.nil) (L2'.mono x23) I2 hR3 f1 f2 (by omega)
end
end K48

set_option maxHeartbeats 8000000
set_option pp.maxSteps 400
set_option pp.deepTerms false
namespace K48
open PySem PySem.Spec PyProof.Rows L2 Kk RZ
abbrev s_do : Stmt := inClass (topS 30) 7
abbrev n_do : List Str := ["self", "at", "part", "word", "asked", "put"]
theorem sc_do : FnScope n_do ["self", "at", "part"] (defScope s_do) := ⟨rfl, rfl, rfl, by decide +kernel, rfl, by decide +kernel, by decide +kernel⟩
theorem not_dec {p : Prop} [Decidable p] (h : ¬ (!decide p) = true) : p := Decidable.byContradiction fun z => h (by rw [decide_eq_false z]; rfl)
/-- what a due form is made of is due, or a number -/
theorem need_due {ws : List Wo} {lst : Nat → Option Nat} {j : Nat} (L : LstOk ws lst) {W : Wo} {p : Nat} (hW : ws[j]? = some W) (hm : (∃ b c d, W = .mix b c d) ∨ ∃ b c, W = .opn b c) (hp : putAt ws j = some p) (d : Due ws lst j p) : ∀ b ∈ askB W, NumF ws ((rA ws j).g b) ∨ Due ws lst j ((rA ws j).g b) := by
  obtain ⟨l, e, q⟩ := d.2
  have ne : l ≠ j := fun z => by
    rw [z] at e
    obtain ⟨W', hW', b, hb, eb⟩ := L.here j p e
    rw [hW] at hW'
    cases hW'
    obtain ⟨t1, t2⟩ := put_tr hW hp
    have g := r_g ws j b
    rw [← eb] at g
    rw [g] at t1
    have big : ∀ x y : FT, x ≠ .mix x y ∧ y ≠ .mix x y ∧ x ≠ .opn x := fun x y => by
      have sz : ∀ t : FT, 0 < sizeOf t := fun t => by cases t <;> simp <;> omega
      refine ⟨fun z => ?_, fun z => ?_, fun z => ?_⟩ <;> (have := congrArg sizeOf z; simp at this; try omega)
    rcases hm with ⟨b1, c1, d1, rfl⟩ | ⟨b1, c1, rfl⟩
    · have t1 : (rT ws j).g b = FT.mix ((rT ws j).g c1) ((rT ws j).g d1) := Option.some.inj t1
      simp only [askB, List.mem_cons, List.not_mem_nil, or_false] at hb
      rcases hb with rfl | rfl
      · exact (big _ _).1 t1
      · exact (big _ _).2.1 t1
    · have t1 : (rT ws j).g b = FT.opn ((rT ws j).g c1) := Option.some.inj t1
      simp only [askB, List.mem_cons, List.not_mem_nil, or_false] at hb
      rw [hb] at t1
      exact (big _ (.number 0)).2.2 t1
  intro b hb
  by_cases z : NumF ws ((rA ws j).g b)
  · exact .inl z
  · exact .inr ⟨z, L.need j W p l hW hp e (by omega) b hb⟩
section
variable {P : Program} {w : World} {K : PySem.W.Frag} {mg : Str → Option Value} {base : Heap}
def spDo (K : PySem.W.Frag) (CM CL : Addr) : Sp := fun vs H Q _ => ∃ (ly fm ld hA sA oA mk kn kp : Addr) (ws : List Wo) (lst : Nat → Option Nat) (hs ss : List Nat) (os : List Or) (n a : Nat) (v : V) (p : Wo × List Nat × Option Nat), vs = [.ref ly, .int a, v] ∧ LyH K CM CL H ly fm ld hA sA oA mk kn kp ws lst hs ss os ∧ LInv n ws lst a a hs ss os ∧ a < 60 ∧ os.length ≤ 4800 ∧ n ≤ 20 ∧ 3 ≤ n ∧ NumsOk ws ∧ LstOk ws lst ∧ PartH K H v p ∧ pAt ws a = some p ∧ (∀ b s, ws[a]? = some (.take b s) → PoolOk s) ∧
  ∀ H' hs' ss' os', Ex [hA, sA, oA] H H' → LyH K CM CL H' ly fm ld hA sA oA mk kn kp ws lst hs' ss' os' → LInv n ws lst (a + 1) (a + 1) hs' ss' os' → os'.length ≤ os.length + 7 → Q .non H'
theorem ok_do {f fW fP fD fS CM CL : Addr} {fd fdW fdP fdD fdS : FuncData} {k : Nat} (F : Fun K "do" "Laying.do" s_do f fd) (T : TL K mg CL) (GW : FnOk P w K mg base CX0 k fW fdW ["self", "asked", "at"] (spHandsW K CM CL)) (mW : Meth K CL "hands_with" fW) (bW : Binds K fdW ["self", "asked", "at"] []) (GP : FnOk P w K mg base CX0 k fP fdP ["self", "kind", "rest", "form", "at"] (spPutIn K CM CL)) (mP : Meth K CL "put_in_hand" fP) (bP : Binds K fdP ["self", "kind", "rest", "form", "at"] [])
    (GD : FnOk P w K mg base CX0 k fD fdD ["self", "form", "at"] (spDue K CM CL)) (mD : Meth K CL "is_due" fD) (bD : Binds K fdD ["self", "form", "at"] []) (GS : FnOk P w K mg base CX0 k fS fdS ["self", "form"] (spHas CL)) (mS : Meth K CL "has" fS) (bS : Binds K fdS ["self", "form"] []) : FnOk P w K mg base CX0 (k + 1) f fd ["self", "at", "part"] (spDo K CM CL) := by
  refine F.ok sc_do (fun vs H Q E h => ?_) (fun cdv A outer s H vs Q E hr h => ?_)
  · obtain ⟨ly, fm, ld, hA, sA, oA, mk, kn, kp, ws, lst, hs, ss, os, n, a, v, p, rfl, _⟩ := h; rfl
  · obtain ⟨ly, fm, ld, hA, sA, oA, mk, kn, kp, ws, lst, hs, ss, os, n, a, v, p, rfl, L, I, ha60, hol, hn20, hn3, nums, lok, hp, hpa, htk, q⟩ := h
    refine ⟨_, (pss_cons (ps_asg (pv 2) (pg_tup rfl (pgs_cons (pg_name (i := 3) sc_do.nd rfl (.inl rfl)) (pgs_cons (pg_name (i := 4) sc_do.nd rfl (.inl rfl)) (pgs_cons (pg_name (i := 5) sc_do.nd rfl (.inl rfl)) pgs_nil)))))
      (pss_one (ps_if (pt_cmpR op_eq (pe_ix ix_tup (pv 3) pe_int (fun _ _ => rfl)) pe_str (nomark _)) (pss_one (ps_expr (pe_bm PySem.F.plainAttrs_list PySem.F.slot_list_append PySem.F.type_list_append mt_append (pe_fld (pv 0) rfl) (pa_cons (pe_tup (pa_cons pe_str (pa_cons (pe_ix ix_list (pe_meth (pv 0) T.cl mW GW hr bW .nil pass0 (pa_cons (pv 4) (pa_cons (pv 1) pa_nil))) pe_int (fun _ _ => rfl)) pa_nil))) pa_nil)))) (pss_one (ps_if (pt_cmpR op_in_seq (pe_ix ix_tup (pv 3) pe_int (fun _ _ => rfl)) (pe_tup (pa_cons pe_str (pa_cons pe_str pa_nil))) rfl) (pss_one (ps_expr (pe_meth (pv 0) T.cl mP GP hr bP .nil pass0 (pa_cons (pe_ix ix_tup (pv 3) pe_int (fun _ _ => rfl)) (pa_cons (pe_slice (sl_tupG (K := K) rfl) (pv 3) (po_some pe_int) po_none) (pa_cons (pv 5) (pa_cons (pv 1) pa_nil))))))) (pss_one (ps_if (PW.pt (pw_and (pt_cmpR op_in_seq (pe_ix ix_tup (pv 3) pe_int (fun _ _ => rfl)) (pe_tup (pa_cons pe_str (pa_cons pe_str pa_nil))) rfl) (pw_and (pt_val (pe_meth (pv 0) T.cl mD GD hr bD .nil pass0 (pa_cons (pv 5) (pa_cons (pv 1) pa_nil)))) (pw_and1 (pt_not (pt_val (pe_meth (pv 0) T.cl mS GS hr bS .nil pass0 (pa_cons (pv 5) pa_nil)))))))) (pss_one (ps_expr (pe_meth (pv 0) T.cl mP GP hr bP .nil pass0 (pa_cons (pe_ix ix_tup (pv 3) pe_int (fun _ _ => rfl)) (pa_cons (pe_meth (pv 0) T.cl mW GW hr bW .nil pass0 (pa_cons (pv 4) (pa_cons (pv 1) pa_nil))) (pa_cons (pv 5) (pa_cons (pv 1) pa_nil))))))) pss_nil))))))), ?_⟩
    obtain ⟨⟨dx, fs, h1, h2, h3, h4, h5, h6, m1, m2, m3, m4, m5, m6, m7, m8, m9, m10, r⟩, hF, ⟨kvs, hk1, hk2⟩, hh, hS, ⟨us, ho, hus⟩, nd⟩ := id L
    obtain ⟨t, wv, ad, rfl, ht, ⟨wa, wxs, rfl, hws, hwx⟩, had⟩ := id hp
    unfold pAt at hpa
    obtain ⟨W, hW, rfl⟩ := Option.map_eq_some_iff.mp hpa
    refine ⟨.ref t, rfl, t, _, rfl, .of ht, rfl, _, _, rfl, _, _, rfl, _, _, rfl, rfl, ?_⟩
    cases W with
    | tell b =>
      obtain ⟨v1, rfl, hv1⟩ := hwx
      refine ⟨.ref wa, rfl, wa, _, 0, _, rfl, rfl, hws, at0, rfl, _, rfl, sY ?_⟩
      have hgd := lok.tell a b hW
      refine ⟨.ref ly, rfl, ly, CL, dx, fs, .ref oA, rfl, h1, T.cl, T.n4, h6, .inl ⟨rfl, _, .of ho⟩, .ref ly, rfl, ly, dx, fs, rfl, h1, m6, .ref ad, rfl, .int a, rfl, ly, fm, ld, hA, sA, oA, mk, kn, kp, ad, ws, lst, hs, ss, [(rA ws a).g b], os, n, a, a, rfl, L, I, ha60, by omega, hn20, hn3, nums, had, by simp, fun f hf => ?_, fun H2 rp hs2 ss2 os2 is nrp x2 L2' I2 hrp ei fi lo2 => ?_⟩
      · rw [List.mem_singleton.mp hf]
        refine ⟨r_lt ws a b, g_put ws a b, ?_⟩
        by_cases z : NumF ws ((rA ws a).g b)
        · exact .inl z
        · exact .inr ⟨z, hgd⟩
      obtain ⟨h, rfl⟩ : ∃ h, is = [h] := by
        have := congrArg List.length ei
        rw [List.length_map] at this
        match is, this with
        | [h], _ => exact ⟨h, rfl⟩
      have eh : hs2.getD h 0 = (rA ws a).g b := (List.cons.inj ei).1
      have hn := fi h (by simp)
      refine ⟨rp, _, 0, _, rfl, rfl, .of hrp, at0, (by show 2 ≤ sizeLine; decide), fun tt ntt => ?_⟩
      obtain ⟨y4, h4'⟩ := nw46 (o := .tup [V.str (Str.ofString "tell"), .int (h : Nat)]) ntt
      obtain ⟨us2, go, gus⟩ := L2'.o
      have go4 := y4.lst go
      have lus : us2.length = os2.length := gus.len
      refine ⟨oA, us2, .ref tt, rfl, rfl, go4, Nat.lt_of_le_of_lt (show us2.length ≤ 5000 by omega) (by decide), ?_⟩
      have x5 : Ex [oA] (upd H2 tt (.tup [V.str (Str.ofString "tell"), .int (h : Nat)])) (upd (upd H2 tt (.tup [V.str (Str.ofString "tell"), .int (h : Nat)])) oA (.lst (us2 ++ [.ref tt]))) := .put go4 nt_lst (by simp)
      have ho' : OrH K (upd H2 tt (.tup [V.str (Str.ofString "tell"), .int (h : Nat)])) (.ref tt) (.tell h) := .tup (.of h4') (.cons (.str _) (.cons (.int _) .nil))
      have pO5 : P2 (OrH K (upd (upd H2 tt (.tup [V.str (Str.ofString "tell"), .int (h : Nat)])) oA (.lst (us2 ++ [.ref tt])))) (us2 ++ [.ref tt]) (os2 ++ [.tell h]) := ((gus.imp fun _ _ z => Tp.ex (e := y4) z).app (.cons ho' .nil)).imp fun _ _ z => Tp.ex (e := x5) z
      have x25 := y4.nil.trans x5
      have nd' := nd
      simp only [List.nodup_cons, List.mem_cons, List.not_mem_nil, or_false, not_or] at nd'
      obtain ⟨_, _, _, ⟨d1, d2, d3, d4, d5⟩, ⟨e1, e2, e3, e4⟩, _⟩ := nd'
      refine q _ hs2 ss2 (os2 ++ [.tell h]) (x2.trans (x25.mono (by simp))) (L2'.upd (x25.mono (by simp)) (x25.lst L2'.h (by simpa using d2)) (x25.lst L2'.s (by simpa using e1)) ⟨_, upd_same, pO5⟩) ((I2.tell hW hn eh).later (Nat.le_succ a)) (by rw [List.length_append, List.length_singleton]; omega)
    | take b s =>
      obtain ⟨v1, rfl, hv1⟩ := hwx
      refine ⟨.ref wa, rfl, wa, _, 0, _, rfl, rfl, hws, at0, rfl, _, rfl, sN (show ¬ Str.ofString "take" = Str.ofString "tell" by decide +kernel) ?_⟩
      refine ⟨.ref wa, rfl, wa, _, 0, _, rfl, rfl, hws, at0, (by show 2 ≤ sizeLine; decide), fun U1 nU1 => ?_⟩
      obtain ⟨y1, hU1⟩ := nw46 (o := .tup [V.str (Str.ofString "take"), .str (Str.ofString "ask")]) nU1
      refine ⟨U1, _, rfl, .inr (.of hU1), rfl, rfl, _, rfl, inY (show inV (.str (Str.ofString "take")) _ = true by decide +kernel) ?_⟩
      have L1 := L.mono y1
      obtain ⟨⟨dx1, fs1, g1, g2, g3, g4, g5, g6, n1, n2, n3, n4, n5, n6, n7, n8, n9, gr⟩, _⟩ := id L1
      have hp := put_at hW
      refine ⟨.ref ly, rfl, ly, dx1, fs1, rfl, g1, n9, .ref wa, rfl, wa, _, 0, _, rfl, rfl, (y1.seqT hws), at0, .ref wa, rfl, 2, rfl, wa, _, _, rfl, y1.seqT hws, cutN 2, fun rp H2 x2 hr2 => ?_⟩
      refine ⟨.int _, rfl, .int a, rfl, ly, fm, ld, hA, sA, oA, mk, kn, kp, rp, ws, lst, hs, ss, os, n, a, a, _, Str.ofString "take", [.str s], (fun h => .take h s), rfl, L1.mono x2, I.later (Nat.le_succ a), ha60, by omega, hn20, by omega, fun H' x => .inl (x.seqT hr2), by simp, fun H' t h ht => .tup (.of ht) (.cons (.str _) (.cons (.int _) (.cons (.str _) .nil))), fun h ss' os' hn dr I' => I'.take hW hp hn dr (htk b s hW), fun H' h ss' os' x L' I' lo => q H' _ ss' os' ((y1.trans x2).nil.trans x) L' I' (by omega)⟩
    | ask b =>
      obtain ⟨v1, rfl, hv1⟩ := hwx
      refine ⟨.ref wa, rfl, wa, _, 0, _, rfl, rfl, hws, at0, rfl, _, rfl, sN (show ¬ Str.ofString "ask" = Str.ofString "tell" by decide +kernel) ?_⟩
      refine ⟨.ref wa, rfl, wa, _, 0, _, rfl, rfl, hws, at0, (by show 2 ≤ sizeLine; decide), fun U1 nU1 => ?_⟩
      obtain ⟨y1, hU1⟩ := nw46 (o := .tup [V.str (Str.ofString "take"), .str (Str.ofString "ask")]) nU1
      refine ⟨U1, _, rfl, .inr (.of hU1), rfl, rfl, _, rfl, inY (show inV (.str (Str.ofString "ask")) _ = true by decide +kernel) ?_⟩
      have L1 := L.mono y1
      obtain ⟨⟨dx1, fs1, g1, g2, g3, g4, g5, g6, n1, n2, n3, n4, n5, n6, n7, n8, n9, gr⟩, _⟩ := id L1
      have hp := put_at hW
      refine ⟨.ref ly, rfl, ly, dx1, fs1, rfl, g1, n9, .ref wa, rfl, wa, _, 0, _, rfl, rfl, (y1.seqT hws), at0, .ref wa, rfl, 2, rfl, wa, _, _, rfl, y1.seqT hws, cutN 2, fun rp H2 x2 hr2 => ?_⟩
      refine ⟨.int _, rfl, .int a, rfl, ly, fm, ld, hA, sA, oA, mk, kn, kp, rp, ws, lst, hs, ss, os, n, a, a, _, Str.ofString "ask", [], (fun h => .ask h), rfl, L1.mono x2, I.later (Nat.le_succ a), ha60, by omega, hn20, by omega, fun H' x => .inl (x.seqT hr2), by simp, fun H' t h ht => .tup (.of ht) (.cons (.str _) (.cons (.int _) .nil)), fun h ss' os' hn dr I' => I'.ask hW hp hn dr, fun H' h ss' os' x L' I' lo => q H' _ ss' os' ((y1.trans x2).nil.trans x) L' I' (by omega)⟩
    | mix b c d =>
      obtain ⟨v1, u1, z1, rfl, hv1, hu1, hz1⟩ := hwx
      refine ⟨.ref wa, rfl, wa, _, 0, _, rfl, rfl, hws, at0, rfl, _, rfl, sN (show ¬ Str.ofString "mix" = Str.ofString "tell" by decide +kernel) ?_⟩
      refine ⟨.ref wa, rfl, wa, _, 0, _, rfl, rfl, hws, at0, (by show 2 ≤ sizeLine; decide), fun U1 nU1 => ?_⟩
      obtain ⟨y1, hU1⟩ := nw46 (o := .tup [V.str (Str.ofString "take"), .str (Str.ofString "ask")]) nU1
      refine ⟨U1, _, rfl, .inr (.of hU1), rfl, rfl, _, rfl, inN (show inV (.str (Str.ofString "mix")) _ = false by decide +kernel) ?_⟩
      refine ⟨.ref wa, rfl, wa, _, 0, _, rfl, rfl, (y1.seqT hws), at0, (by show 2 ≤ sizeLine; decide), fun U2 nU2 => ?_⟩
      obtain ⟨y2, hU2⟩ := nw46 (o := .tup [V.str (Str.ofString "mix"), .str (Str.ofString "open")]) nU2
      refine ⟨U2, _, rfl, .inr (.of hU2), rfl, rfl, _, rfl, inY (show inV (.str (Str.ofString "mix")) _ = true by decide +kernel) ?_⟩
      have x12 := y1.trans y2
      have L1 := L.mono x12
      obtain ⟨⟨dx1, fs1, g1, g2, g3, g4, g5, g6, n1, n2, n3, n4, n5, n6, n7, n8, n9, gr⟩, gF, ⟨kvs1, gk1, gk2⟩, gh, gS, _⟩ := id L1
      have hp := put_at hW
      have lp : _ < (tb ws).length := (put_tr hW hp).2
      refine ⟨.ref ly, rfl, ly, dx1, fs1, rfl, g1, n2, .int _, rfl, .int a, rfl, ly, fm, ld, hA, sA, oA, mk, kn, kp, tb ws, lst, kvs1, _, a, rfl, L1.i, gF, lp, gk1, gk2, _, rfl, ite2 (fun q1 => ?_) fun q1 => ?_⟩
      · have du := (dueB_iff lp).mp q1
        refine ⟨.ref ly, rfl, ly, dx1, fs1, rfl, g1, n8, .int _, rfl, ly, fm, ld, hA, sA, oA, hs, ss, _, rfl, L1.i, gh, gS, _, rfl, ite2 (fun q1 => ?_) fun q1 => ?_⟩
        · have nb := need_due lok hW (.inl ⟨b, c, d, rfl⟩) hp du
          refine ⟨.ref ly, rfl, ly, dx1, fs1, rfl, g1, n9, .ref wa, rfl, wa, _, 0, _, rfl, rfl, (x12.seqT hws), at0, .ref ly, rfl, ly, dx1, fs1, rfl, g1, n6, .ref ad, rfl, .int a, rfl, ly, fm, ld, hA, sA, oA, mk, kn, kp, ad, ws, lst, hs, ss, _, os, n, a, a, rfl, L1, I, ha60, by omega, hn20, hn3, nums, x12.seqT had, by simp [askB], fun f hf => ?_, fun H2 rp hs2 ss2 os2 is nrp x2 L2' I2 hrp ei fi lo2 => ?_⟩
          · obtain ⟨b', hb', rfl⟩ := List.mem_map.mp hf
            exact ⟨r_lt ws a b', g_put ws a b', nb b' hb'⟩
          obtain ⟨h1', h2', rfl⟩ : ∃ h1 h2, is = [h1, h2] := by
            have := congrArg List.length ei
            rw [List.length_map] at this
            match is, this with
            | [h1, h2], _ => exact ⟨h1, h2, rfl⟩
          have e1 : hs2.getD h1' 0 = (rA ws a).g _ := (List.cons.inj ei).1
          have e2 : hs2.getD h2' 0 = (rA ws a).g _ := (List.cons.inj (List.cons.inj ei).2).1
          have l1 := fi h1' (by simp)
          have l2 := fi h2' (by simp)
          have rs : rp ≠ sA := (ne_of_none gS nrp).symm
          have ro : rp ≠ oA := fun z => by obtain ⟨us9, ho9, _⟩ := L1.o; rw [z, ho9] at nrp; cases nrp
          refine ⟨.int _, rfl, .int a, rfl, ly, fm, ld, hA, sA, oA, mk, kn, kp, rp, ws, lst, hs2, ss2, os2, n, a, a, _, Str.ofString "mix", [.int h1', .int h2'], (fun h => .mix h h1' h2'), rfl, L2', I2.later (Nat.le_succ a), ha60, by omega, hn20, by omega, fun H' x => .inr (.of (x.lst hrp (by simp [rs, ro]))), by simp, fun H' t h ht => .tup (.of ht) (.cons (.str _) (.cons (.int _) (.cons (.int _) (.cons (.int _) .nil)))), fun h ss' os' hn dr I' => I'.mix hW hp hn dr l1 e1 l2 e2, fun H' h ss' os' x L' I' lo => q H' _ ss' os' ((x12.nil.trans x2).trans x) L' I' (by omega)⟩
        · have hv := not_dec q1
          refine q _ hs ss os (x12).nil (L.mono (x12)) ((I.idle hW rfl rfl fun p' hp' d' => ?_).later (Nat.le_succ a)) (by omega)
          rw [hp] at hp'; cases hp'; exact hv
      · refine q _ hs ss os (x12).nil (L.mono (x12)) ((I.idle hW rfl rfl fun p' hp' d' => ?_).later (Nat.le_succ a)) (by omega)
        rw [hp] at hp'; cases hp'
        exact absurd ((dueB_iff lp).mpr (d'.mono (Nat.le_refl _))) q1
    | opn b c =>
      obtain ⟨v1, u1, rfl, hv1, hu1⟩ := hwx
      refine ⟨.ref wa, rfl, wa, _, 0, _, rfl, rfl, hws, at0, rfl, _, rfl, sN (show ¬ Str.ofString "open" = Str.ofString "tell" by decide +kernel) ?_⟩
      refine ⟨.ref wa, rfl, wa, _, 0, _, rfl, rfl, hws, at0, (by show 2 ≤ sizeLine; decide), fun U1 nU1 => ?_⟩
      obtain ⟨y1, hU1⟩ := nw46 (o := .tup [V.str (Str.ofString "take"), .str (Str.ofString "ask")]) nU1
      refine ⟨U1, _, rfl, .inr (.of hU1), rfl, rfl, _, rfl, inN (show inV (.str (Str.ofString "open")) _ = false by decide +kernel) ?_⟩
      refine ⟨.ref wa, rfl, wa, _, 0, _, rfl, rfl, (y1.seqT hws), at0, (by show 2 ≤ sizeLine; decide), fun U2 nU2 => ?_⟩
      obtain ⟨y2, hU2⟩ := nw46 (o := .tup [V.str (Str.ofString "mix"), .str (Str.ofString "open")]) nU2
      refine ⟨U2, _, rfl, .inr (.of hU2), rfl, rfl, _, rfl, inY (show inV (.str (Str.ofString "open")) _ = true by decide +kernel) ?_⟩
      have x12 := y1.trans y2
      have L1 := L.mono x12
      obtain ⟨⟨dx1, fs1, g1, g2, g3, g4, g5, g6, n1, n2, n3, n4, n5, n6, n7, n8, n9, gr⟩, gF, ⟨kvs1, gk1, gk2⟩, gh, gS, _⟩ := id L1
      have hp := put_at hW
      have lp : _ < (tb ws).length := (put_tr hW hp).2
      refine ⟨.ref ly, rfl, ly, dx1, fs1, rfl, g1, n2, .int _, rfl, .int a, rfl, ly, fm, ld, hA, sA, oA, mk, kn, kp, tb ws, lst, kvs1, _, a, rfl, L1.i, gF, lp, gk1, gk2, _, rfl, ite2 (fun q1 => ?_) fun q1 => ?_⟩
      · have du := (dueB_iff lp).mp q1
        refine ⟨.ref ly, rfl, ly, dx1, fs1, rfl, g1, n8, .int _, rfl, ly, fm, ld, hA, sA, oA, hs, ss, _, rfl, L1.i, gh, gS, _, rfl, ite2 (fun q1 => ?_) fun q1 => ?_⟩
        · have nb := need_due lok hW (.inr ⟨b, c, rfl⟩) hp du
          refine ⟨.ref ly, rfl, ly, dx1, fs1, rfl, g1, n9, .ref wa, rfl, wa, _, 0, _, rfl, rfl, (x12.seqT hws), at0, .ref ly, rfl, ly, dx1, fs1, rfl, g1, n6, .ref ad, rfl, .int a, rfl, ly, fm, ld, hA, sA, oA, mk, kn, kp, ad, ws, lst, hs, ss, _, os, n, a, a, rfl, L1, I, ha60, by omega, hn20, hn3, nums, x12.seqT had, by simp [askB], fun f hf => ?_, fun H2 rp hs2 ss2 os2 is nrp x2 L2' I2 hrp ei fi lo2 => ?_⟩
          · obtain ⟨b', hb', rfl⟩ := List.mem_map.mp hf
            exact ⟨r_lt ws a b', g_put ws a b', nb b' hb'⟩
          obtain ⟨h1', rfl⟩ : ∃ h1, is = [h1] := by
            have := congrArg List.length ei
            rw [List.length_map] at this
            match is, this with
            | [h1], _ => exact ⟨h1, rfl⟩
          have e1 : hs2.getD h1' 0 = (rA ws a).g _ := (List.cons.inj ei).1
          have l1 := fi h1' (by simp)
          have rs : rp ≠ sA := (ne_of_none gS nrp).symm
          have ro : rp ≠ oA := fun z => by obtain ⟨us9, ho9, _⟩ := L1.o; rw [z, ho9] at nrp; cases nrp
          refine ⟨.int _, rfl, .int a, rfl, ly, fm, ld, hA, sA, oA, mk, kn, kp, rp, ws, lst, hs2, ss2, os2, n, a, a, _, Str.ofString "open", [.int h1'], (fun h => .opn h h1'), rfl, L2', I2.later (Nat.le_succ a), ha60, by omega, hn20, by omega, fun H' x => .inr (.of (x.lst hrp (by simp [rs, ro]))), by simp, fun H' t h ht => .tup (.of ht) (.cons (.str _) (.cons (.int _) (.cons (.int _) .nil))), fun h ss' os' hn dr I' => I'.opn hW hp hn dr l1 e1, fun H' h ss' os' x L' I' lo => q H' _ ss' os' ((x12.nil.trans x2).trans x) L' I' (by omega)⟩
        · have hv := not_dec q1
          refine q _ hs ss os (x12).nil (L.mono (x12)) ((I.idle hW rfl rfl fun p' hp' d' => ?_).later (Nat.le_succ a)) (by omega)
          rw [hp] at hp'; cases hp'; exact hv
      · refine q _ hs ss os (x12).nil (L.mono (x12)) ((I.idle hW rfl rfl fun p' hp' d' => ?_).later (Nat.le_succ a)) (by omega)
        rw [hp] at hp'; cases hp'
        exact absurd ((dueB_iff lp).mpr (d'.mono (Nat.le_refl _))) q1
    | copy b c =>
      obtain ⟨v1, u1, rfl, hv1, hu1⟩ := hwx
      refine ⟨.ref wa, rfl, wa, _, 0, _, rfl, rfl, hws, at0, rfl, _, rfl, sN (show ¬ Str.ofString "copy" = Str.ofString "tell" by decide +kernel) ?_⟩
      refine ⟨.ref wa, rfl, wa, _, 0, _, rfl, rfl, hws, at0, (by show 2 ≤ sizeLine; decide), fun U1 nU1 => ?_⟩
      obtain ⟨y1, hU1⟩ := nw46 (o := .tup [V.str (Str.ofString "take"), .str (Str.ofString "ask")]) nU1
      refine ⟨U1, _, rfl, .inr (.of hU1), rfl, rfl, _, rfl, inN (show inV (.str (Str.ofString "copy")) _ = false by decide +kernel) ?_⟩
      refine ⟨.ref wa, rfl, wa, _, 0, _, rfl, rfl, (y1.seqT hws), at0, (by show 2 ≤ sizeLine; decide), fun U2 nU2 => ?_⟩
      obtain ⟨y2, hU2⟩ := nw46 (o := .tup [V.str (Str.ofString "mix"), .str (Str.ofString "open")]) nU2
      refine ⟨U2, _, rfl, .inr (.of hU2), rfl, rfl, _, rfl, inN (show inV (.str (Str.ofString "copy")) _ = false by decide +kernel) ?_⟩
      exact q _ hs ss os (y1.trans y2).nil (L.mono (y1.trans y2)) (I.quiet hW rfl |>.later (Nat.le_succ a)) (by omega)
    | number b v =>
      obtain ⟨v1, rfl, hv1⟩ := hwx
      refine ⟨.ref wa, rfl, wa, _, 0, _, rfl, rfl, hws, at0, rfl, _, rfl, sN (show ¬ Str.ofString "number" = Str.ofString "tell" by decide +kernel) ?_⟩
      refine ⟨.ref wa, rfl, wa, _, 0, _, rfl, rfl, hws, at0, (by show 2 ≤ sizeLine; decide), fun U1 nU1 => ?_⟩
      obtain ⟨y1, hU1⟩ := nw46 (o := .tup [V.str (Str.ofString "take"), .str (Str.ofString "ask")]) nU1
      refine ⟨U1, _, rfl, .inr (.of hU1), rfl, rfl, _, rfl, inN (show inV (.str (Str.ofString "number")) _ = false by decide +kernel) ?_⟩
      refine ⟨.ref wa, rfl, wa, _, 0, _, rfl, rfl, (y1.seqT hws), at0, (by show 2 ≤ sizeLine; decide), fun U2 nU2 => ?_⟩
      obtain ⟨y2, hU2⟩ := nw46 (o := .tup [V.str (Str.ofString "mix"), .str (Str.ofString "open")]) nU2
      refine ⟨U2, _, rfl, .inr (.of hU2), rfl, rfl, _, rfl, inN (show inV (.str (Str.ofString "number")) _ = false by decide +kernel) ?_⟩
      exact q _ hs ss os (y1.trans y2).nil (L.mono (y1.trans y2)) (I.quiet hW rfl |>.later (Nat.le_succ a)) (by omega)
    | wipe b =>
      obtain ⟨v1, rfl, hv1⟩ := hwx
      refine ⟨.ref wa, rfl, wa, _, 0, _, rfl, rfl, hws, at0, rfl, _, rfl, sN (show ¬ Str.ofString "wipe" = Str.ofString "tell" by decide +kernel) ?_⟩
      refine ⟨.ref wa, rfl, wa, _, 0, _, rfl, rfl, hws, at0, (by show 2 ≤ sizeLine; decide), fun U1 nU1 => ?_⟩
      obtain ⟨y1, hU1⟩ := nw46 (o := .tup [V.str (Str.ofString "take"), .str (Str.ofString "ask")]) nU1
      refine ⟨U1, _, rfl, .inr (.of hU1), rfl, rfl, _, rfl, inN (show inV (.str (Str.ofString "wipe")) _ = false by decide +kernel) ?_⟩
      refine ⟨.ref wa, rfl, wa, _, 0, _, rfl, rfl, (y1.seqT hws), at0, (by show 2 ≤ sizeLine; decide), fun U2 nU2 => ?_⟩
      obtain ⟨y2, hU2⟩ := nw46 (o := .tup [V.str (Str.ofString "mix"), .str (Str.ofString "open")]) nU2
      refine ⟨U2, _, rfl, .inr (.of hU2), rfl, rfl, _, rfl, inN (show inV (.str (Str.ofString "wipe")) _ = false by decide +kernel) ?_⟩
      exact q _ hs ss os (y1.trans y2).nil (L.mono (y1.trans y2)) (I.quiet hW rfl |>.later (Nat.le_succ a)) (by omega)
end
end K48

set_option maxHeartbeats 8000000
set_option pp.maxSteps 400
set_option pp.deepTerms false
namespace K48
open PySem PySem.Spec PyProof.Rows L2 Kk RZ
abbrev s_linit : Stmt := inClass (topS 30) 0
abbrev n_linit : List Str := ["self", "forms", "last", "hands"]
theorem sc_linit : FnScope n_linit n_linit (defScope s_linit) := ⟨rfl, rfl, rfl, by decide +kernel, rfl, by decide +kernel, by decide +kernel⟩
theorem rep_one (n : Nat) : (List.replicate n [V.int 0]).flatten = (List.replicate n 0).map fun n : Nat => V.int n := by
  induction n with
  | zero => rfl
  | succ n ih => rw [List.replicate_succ, List.replicate_succ, List.flatten_cons, ih]; rfl
section
variable {P : Program} {w : World} {K : PySem.W.Frag} {mg : Str → Option Value} {base : Heap}
def spLyInit (K : PySem.W.Frag) (CM CL : Addr) : Sp := fun vs H Q _ => ∃ (p dx fm ld mk kn kp : Addr) (ws : List Wo) (lst : Nat → Option Nat) (n : Nat) (kvs : List (L2.Key × V)), vs = [.ref p, .ref fm, .ref ld, .int n] ∧ H p = some (.ins CL dx []) ∧ FmH CM H fm mk kn kp (tb ws) ∧ H ld = some (.dK kvs) ∧ DkL kvs lst ∧ n ≤ 20 ∧ [p, fm, ld, mk, kn, kp].Nodup ∧
  ∀ H' hA sA oA, Ex [p] H H' → H hA = none → H sA = none → H oA = none → LyH K CM CL H' p fm ld hA sA oA mk kn kp ws lst (List.replicate n 0) (List.replicate 60 0) [] → Q .non H'
theorem ok_linit {f CM CL : Addr} {fd : FuncData} {k : Nat} (F : Fun K "__init__" "Laying.__init__" s_linit f fd) (T : TL K mg CL) (TMk : TM K mg CM) (g_MS : ∃ t, mg "MOST_SLOTS" = some (.int 60 t)) : FnOk P w K mg base CX0 (k + 1) f fd n_linit (spLyInit K CM CL) := by
  obtain ⟨t3, g3⟩ := g_MS
  refine F.ok sc_linit (fun vs H Q E h => ?_) (fun cdv A outer s H vs Q E hr h => ?_)
  · obtain ⟨p, dx, fm, ld, mk, kn, kp, ws, lst, n, kvs, rfl, _⟩ := h; rfl
  · obtain ⟨p, dx, fm, ld, mk, kn, kp, ws, lst, n, kvs, rfl, hp, hF, hd, hk, hn, nd, q⟩ := h
    refine ⟨_, (pss_cons (ps_fld (pv 0) (pv 1) rfl)
      (pss_cons (ps_fld (pv 0) (pv 2) rfl)
      (pss_cons (ps_fld (pv 0) (pe_op op_rep (pe_lst (pa_cons (pe_fld (pv 1) rfl) pa_nil)) (pv 3)) rfl)
      (pss_cons (ps_fld (pv 0) (pe_op op_rep (pe_lst (pa_cons (pe_fld (pv 1) rfl) pa_nil)) (pe_glob (v := .int 60) rfl g3 ⟨_, rfl⟩)) rfl)
      (pss_one (ps_fld (pv 0) (pe_lst pa_nil) rfl)))))), ?_⟩
    have nd' := nd
    simp only [List.nodup_cons, List.mem_cons, List.not_mem_nil, or_false, not_or] at nd'
    obtain ⟨⟨p1, p2, p3, p4, p5⟩, ⟨f1, f2, f3, f4⟩, ⟨l1, l2, l3⟩, ⟨m1, m2⟩, k1, _⟩ := nd'
    obtain ⟨⟨dm, gs, hm1, lg1, lg2, lg3, lg4, lg5⟩, ⟨mvs, hm2, _⟩, hm3, hm4, _⟩ := id hF
    have put : ∀ {H0 : Hp} {fs fs' : List (Str × V)}, H0 p = some (.ins CL dx fs) → Ex [p] H0 (upd H0 p (.ins CL dx fs')) := fun h => .put h (fun _ z => by cases z) (by simp)
    have z0 : (([] : List (Str × V))).length ≤ 0 := Nat.le_refl _
    refine ⟨.ref fm, rfl, .ref p, rfl, p, CL, dx, [], rfl, hp, T.cl, T.n0, (by show 0 < 1000; decide), ?_⟩
    have z1 := lenF "forms" (.ref fm) z0
    have x1 : Ex [p] H (upd H p (.ins CL dx (putF "forms" (.ref fm) []))) := put hp
    have h1 : (upd H p (.ins CL dx (putF "forms" (.ref fm) []))) p = some (.ins CL dx (putF "forms" (.ref fm) [])) := upd_same
    generalize upd H p (.ins CL dx (putF "forms" (.ref fm) [])) = H1 at x1 h1 ⊢
    refine ⟨.ref ld, rfl, .ref p, rfl, p, CL, dx, _, rfl, h1, T.cl, T.n1, by omega, ?_⟩
    have z2 := lenF "last" (.ref ld) z1
    have x2 := x1.trans (put (fs' := putF "last" (.ref ld) (putF "forms" (.ref fm) [])) h1)
    have h2 : (upd H1 p (.ins CL dx (putF "last" (.ref ld) (putF "forms" (.ref fm) [])))) p = some (.ins CL dx (putF "last" (.ref ld) (putF "forms" (.ref fm) []))) := upd_same
    generalize upd H1 p (.ins CL dx (putF "last" (.ref ld) (putF "forms" (.ref fm) []))) = H2 at x2 h2 ⊢
    have fmp : fm ∉ [p] := by simpa using Ne.symm p1
    refine ⟨.ref fm, rfl, fm, CM, dm, gs, .int 0, rfl, x2.a fm _ fmp hm1 (fun _ z => by cases z), TMk.cl, TMk.n3, lg4, (by show 1 ≤ sizeLine; decide), fun b1 nb1 => ?_⟩
    obtain ⟨yb1, hb1⟩ := nw46 (o := .lst [V.int 0]) nb1
    refine ⟨.int n, rfl, b1, n, _, rfl, rfl, hb1, by omega, by omega, Nat.le_trans (show [V.int 0].length * ((n : Int).toNat) ≤ 20 by simp; omega) (by decide), fun hA nhA => ?_⟩
    rw [show (List.replicate ((n : Int).toNat) [V.int 0]).flatten = (List.replicate n 0).map fun n : Nat => V.int n from rep_one n]
    obtain ⟨yhA, hhA⟩ := nw46 (o := .lst ((List.replicate n 0).map fun n : Nat => V.int n)) nhA
    have nA0 : H hA = none := x2.f _ (yb1.f _ nhA)
    have h2' := (yb1.trans yhA).a p _ (by simp) h2 (fun _ z => by cases z)
    have x3 := x2.trans (yb1.trans yhA).nil
    generalize upd (upd H2 b1 (.lst [V.int 0])) hA (.lst ((List.replicate n 0).map fun n : Nat => V.int n)) = H3 at hhA h2' x3 ⊢
    have phA : hA ≠ p := fun z => by rw [z, hp] at nA0; cases nA0
    refine ⟨.ref p, rfl, p, CL, dx, _, rfl, h2', T.cl, T.n2, by omega, ?_⟩
    have z3 := lenF "hands" (.ref hA) z2
    have x4 := x3.trans (put (fs' := putF "hands" (.ref hA) (putF "last" (.ref ld) (putF "forms" (.ref fm) []))) h2')
    have xs4 : Ex [p] H3 (upd H3 p (.ins CL dx (putF "hands" (.ref hA) (putF "last" (.ref ld) (putF "forms" (.ref fm) []))))) := put h2'
    have h4 : (upd H3 p (.ins CL dx (putF "hands" (.ref hA) (putF "last" (.ref ld) (putF "forms" (.ref fm) []))))) p = some (.ins CL dx (putF "hands" (.ref hA) (putF "last" (.ref ld) (putF "forms" (.ref fm) [])))) := upd_same
    have hhA4 := xs4.lst hhA (by simpa using phA)
    generalize upd H3 p (.ins CL dx (putF "hands" (.ref hA) (putF "last" (.ref ld) (putF "forms" (.ref fm) [])))) = H4 at x4 h4 hhA4 ⊢
    refine ⟨.ref fm, rfl, fm, CM, dm, gs, .int 0, rfl, x4.a fm _ fmp hm1 (fun _ z => by cases z), TMk.cl, TMk.n3, lg4, (by show 1 ≤ sizeLine; decide), fun b2 nb2 => ?_⟩
    obtain ⟨yb2, hb2⟩ := nw46 (o := .lst [V.int 0]) nb2
    refine ⟨b2, 60, _, rfl, rfl, hb2, by decide, by decide, Nat.le_trans (show [V.int 0].length * ((60 : Int).toNat) ≤ 60 by decide) (by decide), fun sA nsA => ?_⟩
    rw [show (List.replicate ((60 : Int).toNat) [V.int 0]).flatten = (List.replicate 60 0).map fun n : Nat => V.int n from rep_one 60]
    obtain ⟨ysA, hsA⟩ := nw46 (o := .lst ((List.replicate 60 0).map fun n : Nat => V.int n)) nsA
    have nS0 : H sA = none := x4.f _ (yb2.f _ nsA)
    have hs : hA ≠ sA := fun z => by have := yb2.f _ nsA; rw [← z, hhA4] at this; cases this
    have h4' := (yb2.trans ysA).a p _ (by simp) h4 (fun _ z => by cases z)
    have hhA5 := (yb2.trans ysA).lst hhA4
    have x5 := x4.trans (yb2.trans ysA).nil
    generalize upd (upd H4 b2 (.lst [V.int 0])) sA (.lst ((List.replicate 60 0).map fun n : Nat => V.int n)) = H5 at hsA h4' hhA5 x5 ⊢
    have psA : sA ≠ p := fun z => by rw [z, hp] at nS0; cases nS0
    refine ⟨.ref p, rfl, p, CL, dx, _, rfl, h4', T.cl, T.n3, by omega, ?_⟩
    have z4 := lenF "slots" (.ref sA) z3
    have xs6 : Ex [p] H5 (upd H5 p (.ins CL dx (putF "slots" (.ref sA) (putF "hands" (.ref hA) (putF "last" (.ref ld) (putF "forms" (.ref fm) [])))))) := put h4'
    have x6 := x5.trans xs6
    have h6 : (upd H5 p (.ins CL dx (putF "slots" (.ref sA) (putF "hands" (.ref hA) (putF "last" (.ref ld) (putF "forms" (.ref fm) [])))))) p = some (.ins CL dx (putF "slots" (.ref sA) (putF "hands" (.ref hA) (putF "last" (.ref ld) (putF "forms" (.ref fm) []))))) := upd_same
    have hhA6 := xs6.lst hhA5 (by simpa using phA)
    have hsA6 := xs6.lst hsA (by simpa using psA)
    generalize upd H5 p (.ins CL dx (putF "slots" (.ref sA) (putF "hands" (.ref hA) (putF "last" (.ref ld) (putF "forms" (.ref fm) []))))) = H6 at x6 h6 hhA6 hsA6 ⊢
    refine ⟨Nat.zero_le _, fun oA noA => ?_⟩
    obtain ⟨yoA, hoA⟩ := nw46 (o := .lst []) noA
    have nO0 : H oA = none := x6.f _ noA
    have ho : hA ≠ oA := fun z => by rw [← z, hhA6] at noA; cases noA
    have so : sA ≠ oA := fun z => by rw [← z, hsA6] at noA; cases noA
    have h6' := yoA.a p _ (by simp) h6 (fun _ z => by cases z)
    have hhA7 := yoA.lst hhA6
    have hsA7 := yoA.lst hsA6
    have x7 := x6.trans yoA.nil
    generalize upd H6 oA (.lst []) = H7 at hoA h6' hhA7 hsA7 x7 ⊢
    have poA : oA ≠ p := fun z => by rw [z, hp] at nO0; cases nO0
    refine ⟨.ref p, rfl, p, CL, dx, _, rfl, h6', T.cl, T.n4, by omega, ?_⟩
    have z5 := lenF "orders" (.ref oA) z4
    have xs8 : Ex [p] H7 (upd H7 p (.ins CL dx (putF "orders" (.ref oA) (putF "slots" (.ref sA) (putF "hands" (.ref hA) (putF "last" (.ref ld) (putF "forms" (.ref fm) []))))))) := put h6'
    have x8 := x7.trans xs8
    have ne : ∀ {a b : Addr} {o : HO}, H a = some o → H b = none → a ≠ b := fun ha hb z => by rw [z, hb] at ha; cases ha
    refine q _ hA sA oA x8 nA0 nS0 nO0 ⟨⟨dx, _, upd_same, ?_, ?_, ?_, ?_, ?_, ?_, ?_, ?_, ?_, ?_, ?_, ?_, ?_, ?_, ?_, by omega⟩, hF.ex x8 fmp (by simpa using Ne.symm p3) (by simpa using Ne.symm p4) (by simpa using Ne.symm p5), ⟨kvs, x8.a ld _ (by simpa using Ne.symm p2) hd (fun _ z => by cases z), hk⟩, xs8.lst hhA7 (by simpa using phA), xs8.lst hsA7 (by simpa using psA), ⟨[], xs8.lst hoA (by simpa using poA), .nil⟩, ?_⟩
    case refine_16 =>
      simp only [List.nodup_cons, List.mem_cons, List.not_mem_nil, or_false, not_or, List.nodup_nil, and_true, not_false_eq_true]
      exact ⟨⟨p1, p2, ne hp nA0, ne hp nS0, ne hp nO0, p3, p4, p5⟩, ⟨f1, ne hm1 nA0, ne hm1 nS0, ne hm1 nO0, f2, f3, f4⟩, ⟨ne hd nA0, ne hd nS0, ne hd nO0, l1, l2, l3⟩, ⟨hs, ho, (ne hm2 nA0).symm, (ne hm3 nA0).symm, (ne hm4 nA0).symm⟩, ⟨so, (ne hm2 nS0).symm, (ne hm3 nS0).symm, (ne hm4 nS0).symm⟩, ⟨(ne hm2 nO0).symm, (ne hm3 nO0).symm, (ne hm4 nO0).symm⟩, ⟨m1, m2⟩, k1⟩
    all_goals
      simp only [lookup_putF]
      repeat (first | rw [if_neg (by decide +kernel)] | rw [if_pos trivial] | rfl)
end
/-! what is left, by the program and by the law -/
theorem runK_a0 (ws : List Wo) : kA (runA a0 ws) = runK (fun _ => false) ws := by rw [kA_run a0_ok]; rfl
theorem left_nil {n0 : Nat} {ks : List (List L2.Key)} {ws : List Wo} : leftL (runL n0 ⟨ks, [], []⟩ ws).hv = [] ↔ NoK ws := by
  have e := hk_run (n0 := n0) (ws := ws) (l := ⟨ks, [], []⟩)
  constructor
  · intro h b
    cases z : runK (fun _ => false) ws b with
    | false => rfl
    | true =>
      have e2 : (hg n0 (runL n0 ⟨ks, [], []⟩ ws).hv b).2 = true := (congrFun e b).trans z
      have := left_in e2
      rw [h] at this; cases this
  · intro h
    have nd := runL_nd (n0 := n0) (ws := ws) (l := ⟨ks, [], []⟩) List.nodup_nil
    unfold leftL
    rw [List.map_eq_nil_iff, List.filter_eq_nil_iff]
    intro x hx y
    have e1 := lkB_nd nd hx
    have e2 : (hg n0 (runL n0 ⟨ks, [], []⟩ ws).hv x.1).2 = true := by unfold hg; rw [e1]; exact y
    have e3 := (congrFun e x.1).symm.trans e2
    have e4 : runK (fun _ => false) ws x.1 = true := e3
    rw [h x.1] at e4; cases e4
theorem any_nok {ws : List Wo} : anyK (runT ⟨[.number 0], [], 0, []⟩ ws).ms (runT ⟨[.number 0], [], 0, []⟩ ws).dv = false ↔ NoK ws := by
  have e : absT (runT ⟨[.number 0], [], 0, []⟩ ws) = runA a0 ws := abs_run _ _
  have nd : ((runT ⟨[.number 0], [], 0, []⟩ ws).dv.map (·.1)).Nodup := keys_nd (t := ⟨[.number 0], [], 0, []⟩) List.nodup_nil
  constructor
  · intro h b
    rw [← runK_a0, ← e]
    show kk (runT ⟨[.number 0], [], 0, []⟩ ws).ms (gt (runT ⟨[.number 0], [], 0, []⟩ ws).dv b) = false
    unfold gt
    cases z : gtO (runT ⟨[.number 0], [], 0, []⟩ ws).dv b with
    | none =>
      have w := (a0_ok.run ws).w
      rw [← e] at w
      exact kk_zero w
    | some n =>
      unfold anyK at h
      rw [List.any_eq_false] at h
      have := h _ (gtO_mem z)
      show kk (runT ⟨[.number 0], [], 0, []⟩ ws).ms n = false
      cases y : kk (runT ⟨[.number 0], [], 0, []⟩ ws).ms n with
      | false => rfl
      | true => exact absurd y this
  · intro h
    unfold anyK
    rw [List.any_eq_false]
    intro x hx
    have hv : gt (runT ⟨[.number 0], [], 0, []⟩ ws).dv x.1 = x.2 := by unfold gt; rw [gtO_nd nd hx]; rfl
    have hk : kA (absT (runT ⟨[.number 0], [], 0, []⟩ ws)) x.1 = false := by rw [e, runK_a0]; exact h x.1
    have hk : kk (runT ⟨[.number 0], [], 0, []⟩ ws).ms (gt (runT ⟨[.number 0], [], 0, []⟩ ws).dv x.1) = false := hk
    rw [hv] at hk
    show ¬ kk (runT ⟨[.number 0], [], 0, []⟩ ws).ms x.2 = true
    rw [hk]; exact Bool.false_ne_true
theorem tb_runT (ws : List Wo) : (runT ⟨[.number 0], [], 0, []⟩ ws).ms = tb ws := congrArg As.ms (show absT (runT ⟨[.number 0], [], 0, []⟩ ws) = runA a0 ws from abs_run _ _)
def NumB (ms : List Fo) : Prop := ∀ (i : Nat) (v : Int), ms[i]? = some (.number v) → 0 ≤ v ∧ v < 10000
theorem NumB.made {ms : List Fo} (h : NumB ms) {m : Fo} (hm : ∀ v, m = .number v → 0 ≤ v ∧ v < 10000) : NumB (made ms m).1 := by
  unfold K48.made
  split
  · exact h
  · intro i v e
    have e : (ms ++ [m])[i]? = some (.number v) := e
    rw [List.getElem?_append] at e
    split at e
    · exact h i v e
    · cases q : i - ms.length with
      | zero => rw [q] at e; exact hm v (Option.some.inj e)
      | succ j => rw [q] at e; cases e
theorem nums_ok {B Wn : List Str} {ws : List Wo} (h : ∀ W ∈ ws, WdR B Wn W) : NumsOk ws := by
  have key : ∀ (ws : List Wo) (a : As), (∀ W ∈ ws, WdR B Wn W) → NumB a.ms → NumB (runA a ws).ms := by
    intro ws
    induction ws with
    | nil => exact fun a _ h => h
    | cons W r ih =>
      intro a hw h
      refine ih (stepA a W) (fun V hV => hw V (List.mem_cons_of_mem _ hV)) ?_
      have hW := hw W List.mem_cons_self
      show NumB (formB a.ms a.wt ((askB W).map a.g) W).1
      cases W with
      | number b n => exact h.made fun v e => by cases e; exact hW.2
      | take b s => exact h.made fun v e => by cases e
      | ask b => exact h.made fun v e => by cases e
      | mix b c d => exact h.made fun v e => by cases e
      | opn b c => exact h.made fun v e => by cases e
      | copy b c => exact h
      | tell b => exact h
      | wipe b => exact h
  refine key ws a0 h fun i v e => ?_
  match i, e with
  | 0, e => cases e; exact ⟨by decide, by decide⟩
  | i + 1, e => simp [a0] at e
end K48

set_option maxHeartbeats 8000000
set_option pp.maxSteps 400
set_option pp.deepTerms false
namespace K48
open PySem PySem.Spec PyProof.Rows L2 Kk RZ
abbrev s_is_straight : Stmt := topS 24
theorem sc_is_straight : FnScope ["row"] ["row"] (defScope s_is_straight) := ⟨rfl, rfl, rfl, by decide +kernel, rfl, by decide +kernel, by decide +kernel⟩
abbrev scG_str : Scope := ⟨.function, [(Str.ofString ".0", .local), (Str.ofString "word", .local), (Str.ofString "STRAIGHT", .globalImplicit)], true, false, []⟩
theorem gxn_str : GxN ["row"] (defScope s_is_straight) scG_str ["word"] 1 [] := ⟨rfl, fun i j h => by simp at h⟩
theorem gxs_str : GxS (defScope s_is_straight) scG_str := ⟨rfl, rfl, by decide +kernel, by decide +kernel, by decide +kernel⟩
theorem nd_wd : (["word"] : List Str).Nodup := by decide +kernel
def strL : List Str := [Str.ofString "take", Str.ofString "ask", Str.ofString "number", Str.ofString "copy", Str.ofString "mix", Str.ofString "open", Str.ofString "tell", Str.ofString "wipe"]
/-- a word whose first part is a text -/
def KdH (K : PySem.W.Frag) (H : Hp) (v : V) (k : Str) : Prop := ∃ a r, v = .ref a ∧ SqT K H a (.str k :: r)
theorem KdH.ex {K : PySem.W.Frag} {H H' : Hp} {v : V} {k : Str} {xs : List Addr} (h : KdH K H v k) (e : Ex xs H H') : KdH K H' v k := by
  obtain ⟨a, r, rfl, h⟩ := h; exact ⟨a, r, rfl, e.seqT h⟩
def strB (k : Str) : Bool := inV (.str k) (strL.map V.str)
theorem WoH.kdh {K : PySem.W.Frag} {H : Hp} {v : V} {W : Wo} (h : WoH K H v W) : KdH K H v (kdW W) := by
  obtain ⟨a, xs, rfl, hs, hx⟩ := h
  obtain ⟨r, rfl, _⟩ := hx.kd
  exact ⟨a, r, rfl, hs⟩
theorem kd_straight (W : Wo) : strB (kdW W) = true := by
  cases W with
  | take b s => exact (show inV (.str (Str.ofString "take")) (strL.map V.str) = true by decide +kernel)
  | ask b => exact (show inV (.str (Str.ofString "ask")) (strL.map V.str) = true by decide +kernel)
  | number b n => exact (show inV (.str (Str.ofString "number")) (strL.map V.str) = true by decide +kernel)
  | copy b c => exact (show inV (.str (Str.ofString "copy")) (strL.map V.str) = true by decide +kernel)
  | mix b c d => exact (show inV (.str (Str.ofString "mix")) (strL.map V.str) = true by decide +kernel)
  | opn b c => exact (show inV (.str (Str.ofString "open")) (strL.map V.str) = true by decide +kernel)
  | tell b => exact (show inV (.str (Str.ofString "tell")) (strL.map V.str) = true by decide +kernel)
  | wipe b => exact (show inV (.str (Str.ofString "wipe")) (strL.map V.str) = true by decide +kernel)
theorem kds_straight {K : PySem.W.Frag} {H : Hp} {xs : List V} {ws : List Wo} (h : P2 (WoH K H) xs ws) : P2 (KdH K H) xs (ws.map kdW) ∧ (ws.map kdW).all strB = true := by
  induction h with
  | nil => exact ⟨.nil, rfl⟩
  | @cons a W l m x t ih => exact ⟨.cons (WoH.kdh x) ih.1, by rw [List.map_cons, List.all_cons, kd_straight, ih.2]; rfl⟩
section
variable {P : Program} {w : World} {K : PySem.W.Frag} {mg : Str → Option Value} {base : Heap}
def spStr (K : PySem.W.Frag) (T6 : Addr) : Sp := fun vs H Q _ => ∃ (r : Addr) (xs : List V) (ks : List Str), vs = [.ref r] ∧ SqT K H r xs ∧ GxR.TabG H T6 ∧ P2 (KdH K H) xs ks ∧ ks.length ≤ 500 ∧ ∀ H', Ex [] H H' → Q (.bl (ks.all strB)) H'
theorem ok_is_straight {f c T6 pA : Addr} {k : Nat} {oc : Value} {od an : Option Addr} {osl : Array (Option Value)} {kV doc pm ct : Value}
    (lk : K.lookup f = some ⟨oc, od, .func (PySem.W.fnOf "is_straight" "is_straight" (defArgs s_is_straight) (defBody s_is_straight) (defScope s_is_straight) .none kV doc pm an (.ref c) ct), osl⟩) (hc : PySem.W.codeIn K (.ref c) "is_straight" = true)
    (tab : GxR.TabB base mg c T6) (m_all : mg "all" = none) (g_STR : mg "STRAIGHT" = some (.ref pA)) (hpA : ∀ H, SqT K H pA (strL.map V.str)) :
    FnOk P w K mg base CX0 (k + 3) f (PySem.W.fnOf "is_straight" "is_straight" (defArgs s_is_straight) (defBody s_is_straight) (defScope s_is_straight) .none kV doc pm an (.ref c) ct) ["row"] (spStr K T6) := by
  refine okC lk hc sc_is_straight (fun vs H Q E h => ?_) (fun A outer s H vs Q E hr h => ?_)
  · obtain ⟨r, xs, ks, rfl, _⟩ := h; rfl
  · obtain ⟨r, xs, ks, rfl, hs, hT6, hk, hkl, q⟩ := h
    refine ⟨_, pss_one (ps_ret (pe_allG (N' := ["word"]) (nt := 1) (js := []) (g := gName 0) (tt := tYes)
          ⟨tab, rfl, gxs_str, gxn_str, pi_tup (pv 0), fun _ _ _ _ _ _ _ _ => pg_name (i := 0) nd_wd rfl (.inl rfl), fun _ _ _ _ _ _ _ _ => pts_nil,
            fun _ _ _ _ _ _ _ r => pe_cmpR (op_in_seqK (K := K) rfl) (pe_ix (ix_tupK (K := K) rfl) (pv 0) pe_int (fun _ _ => rfl)) (pe_glob (v := .ref pA) rfl g_STR rfl) rfl, fun _ => rfl⟩ hr (by rfl) m_all)), ?_⟩
    have xl := hk.len
    refine ⟨.ref r, rfl, r, rfl, ⟨xs, hs⟩, hT6, fun H2 tb => gx_it (walk_tup (xs := xs)) (fun i ys H' => ys.length = i ∧ Ex [] H H' ∧ (ks.take i).all strB = true) ⟨rfl, .tabbed hT6 tb, rfl⟩ (fun i ys H' _ p => p.2.1.seqT hs) (fun i x ys H3 H4 hi p y => ?_) (fun ys H' p => ?_)⟩
    · obtain ⟨rfl, hx⟩ := y
      obtain ⟨pl, p1, p2⟩ := p
      obtain ⟨kd, hkd, a, r', rfl, ha⟩ := hk.getL hx
      refine ⟨fun j v e => by
        match j, e with
        | 0, e => cases e
        | j + 1, e => simp [gst] at e, ?_⟩
      refine ⟨.ref a, rfl, a, _, 0, _, rfl, rfl, p1.seqT ha, at0, pA, _, rfl, .inr (hpA _), rfl, by decide +kernel, ?_⟩
      show _ ∧ _
      refine ⟨by rw [sizeLine_eq]; omega, _, rfl, ?_⟩
      show if strB kd = true then _ else _
      refine ite2 (fun b => ?_) fun b => ?_
      · refine ⟨by rw [List.length_append, List.length_singleton, pl], p1, ?_⟩
        rw [List.take_add_one, hkd, List.all_append, p2]
        show (true && (strB kd && true)) = true
        rw [b]; rfl
      · have e2 : ks.all strB = false := by
          rw [List.all_eq_false]
          exact ⟨kd, List.mem_of_getElem? hkd, b⟩
        have q2 := q _ p1
        rw [e2] at q2; exact q2
    · obtain ⟨pl, p1, p2⟩ := p
      rw [xl, List.take_length] at p2
      have q2 := q H' p1
      rw [p2] at q2; exact q2
end
end K48

set_option maxHeartbeats 4000000
namespace Kk
open PySem PySem.Spec PySem.W PySem.Calls PyProof.Rows L2
section
variable {prog : Program} {w : World} {A : Around} {E : Value → Shared → Prop} {s : Shared} {K : Frag} {x D : Addr} {ox : Obj} {odx : Option Obj}
theorem findObj_dataO {C : Addr} {name : Str} {a g : Value} (hc : (clsIn K C).isSome = true) (ha : findIn K (.ref C) name = some (some a)) (hg : specialIn K a "__get__" = some (some g)) (ht : takesIn K a = some true) : findObj K C odx name = some (.bind g a) := by
  obtain ⟨cd, hc⟩ := Option.isSome_iff_exists.mp hc
  unfold findObj
  rw [hc, Option.bind_some, ha, Option.bind_some]
  simp [hg, ht]
theorem kin_classO {Q : Option Value → Shared → Prop} (C : ExcC K D) (X : K.In s.heap) (I : InstAt s.heap x ox D odx) (h : Q (some (.ref D)) { s with toks := s.toks + 1 }) : wpAny (model prog w) A (getAttr? (.ref x) "__class__") Q E s := by
  have hf : findObj K D odx "__class__" = some (.bind (.builtin "getset_descriptor.__get__") (.builtin "object.__class__")) := findObj_dataO (by obtain ⟨cd, hc, _⟩ := any_some C.hd; rw [hc]; rfl) C.ha C.hn C.ht
  obtain ⟨hp, g, d, t, os⟩ := s
  have L0 := I.type (M := model prog w)
  have L1 := looks_findIn (M := model prog w) X C.hg
  have L2 := looks_findIn (M := model prog w) X C.hk
  have L3 := looks_find (M := model prog w) X I hf
  have sub : Looks (model prog w) hp (isInstance (.ref x) (.type "BaseException")) true := L0.andThen (looks_subIn X C.hs)
  have hx0 : (false && onTheHeap (Value.builtin "BaseException.__getattribute__")) = false := rfl
  have hx2 : (Value.builtin "BaseException.__getattribute__" == Value.builtin "object.__getattribute__") = false := by decide +kernel
  have hx1 : (onTheHeap (Value.ref D) && Value.builtin "BaseException.__getattribute__" == Value.builtin "object.__getattribute__") = false := by rw [hx2]; rfl
  unfold getAttr? getAttrBy? getAttrBy
  refine wpAny_bind (wpAny_mkText (wpAny_bind (wpAny_attempt (wpAny_holding (wpAny_bind (L0.at (wpAny_bind (L1.at ?_))))))))
  show wpAny _ _ (if (onTheHeap (Value.ref D) && Value.builtin "BaseException.__getattribute__" == Value.builtin "object.__getattribute__") = true then _ else _) _ _ _
  rw [hx1, if_neg Bool.false_ne_true]
  unfold getAttrByItsOwn hookBefore
  refine wpAny_bind ?_
  rw [if_pos (show onTheHeap (Value.ref D) = true from rfl)]
  refine L2.at ?_
  refine wpAny_bind (wpAny_attempt (wpAny_holding ?_))
  unfold callGetattribute
  rw [hx0, if_neg Bool.false_ne_true]
  unfold boundAndCalled
  rw [PySem.F.excAttr_ValueError.ga.bind (.ref x)]
  refine wpAny_bind (wpAny_pure ?_)
  show wpAny _ _ (call (.builtin "BaseException.__getattribute__") [.ref x, .str "__class__" t]) _ _ _
  refine wpAny_call (codeAny_call_builtin PySem.F.excAttr_ValueError.ga.plain PySem.F.entry_bexc_ga ?_)
  refine @check_slot (model prog w) _ _ ⟨hp, g, d, t + 1, os⟩ "BaseException.__getattribute__" "BaseException" "__getattribute__" (.ref x) [.str "__class__" t] [] _ (by decide +kernel) (by decide +kernel) sub (PySem.F.args_bexc_ga (.ref x) (.str "__class__" t)) ?_
  unfold Builtin.«object.__getattribute__»
  refine wpAny_bind (wpAny_of_eq (a := ((Value.ref x : Value), [Value.str "__class__" t])) (by first | rfl | (simp only [slotArgs]; rfl)) ?_)
  refine wpAny_bind (wpAny_pure (wpAny_bind (L0.at (wpAny_bind (L3.at ?_)))))
  show wpAny _ _ (holding [Value.builtin "object.__class__"] (call (.builtin "getset_descriptor.__get__") [.builtin "object.__class__", .ref x, .ref D]) >>= ret) _ _ _
  refine wpAny_bind (wpAny_holding (wpAny_call (class_get (s := ⟨hp, g, d, t + 1, os⟩) (ox := ox) (od := odx) X I C.hm ?_)))
  refine wpAny_pure ?_
  show wpAny _ _ (handedOut (.ref D)) _ _ _
  rw [handedOut_of (v := .ref D) rfl]
  first
    | exact wpAny_pure (wpAny_pure h)
    | exact wpAny_pure h
    | exact wpAny_pure (wpAny_bind (wpAny_pure (wpAny_pure h)))
theorem kitx_excO (C : ExcC K D) : KitX K (.ref x) (.ref D) (fun h => InstAt h x ox D odx) where
  ty := fun _ _ _ I => I.type
  it := fun _ _ X _ => by
    obtain ⟨cdD, hcD, _⟩ := any_some C.hd
    unfold clsIn at hcD
    split at hcD
    · rename_i c' d' cd' sl' ho
      intro A' Q' E' s' k q
      unfold isType loadHead
      exact wpAny_bind (wpAny_loadPart (k _ _ (X _ _ ho)) (wpAny_pure q))
    · cases hcD
  ne := fun h tp dd its n sl X htp => by
    obtain ⟨cdD, hcD, _⟩ := any_some C.hd
    refine Bool.eq_false_iff.mpr fun q => ?_
    have e : D = tp := Value.ref.inj (beq_iff_eq.mp q)
    subst e
    unfold clsIn at hcD
    split at hcD
    · rename_i c' d' cd' sl' ho
      have z := (X _ _ ho).symm.trans htp
      cases z
    · cases hcD
  ca := fun X I k => kin_classO C X I k
end
/-- isinstance(e, c), e the exception that the suite holds, with its dict at dd -/
def rIsO (K : PySem.W.Frag) (D a : Addr) (cls : Value) (d : Option Addr) : List V → Hp → VK → Prop := fun xs H Q => cls = .ref D ∧ ∃ (dd : Addr) (fs : List (Str × V)) (c : V) (cv : Value) (b : Bool), d = some dd ∧ H dd = some (.xd fs) ∧ xs = [.ref a, c] ∧ (∀ u, RelV c u → u = cv) ∧ PySem.W.kitOne K (.ref D) cv = some b ∧ Q (.bl b) H
/-- isinstance(e, (c, ..)) -/
def rIsOT (K : PySem.W.Frag) (D a : Addr) (cls : Value) (d : Option Addr) : List V → Hp → VK → Prop := fun xs H Q => cls = .ref D ∧ ∃ (dd tp : Addr) (fs : List (Str × V)) (cs : List V) (us : List Value) (b : Bool), d = some dd ∧ H dd = some (.xd fs) ∧ xs = [.ref a, .ref tp] ∧ H tp = some (.tup cs) ∧ Paired ClsV cs us ∧ PySem.W.kitAny K (.ref D) us = some b ∧ Q (.bl b) H
section
variable {X : Cx} {a D : Addr} {oe : Obj} {cls : Value} {d : Option Addr} {pn : List (Addr × Obj)}
theorem inst_of {pins : List (Addr × Obj)} {s : Shared} {σ : L2.St} {H : Hp} {dd : Addr} {fs : List (Str × V)} (hz : Zc (.ref D) (some dd) oe) (hf : ∃ vs, oe.data = .fields vs) (I : Inv (X.suite a ((a, oe) :: pn)) pins σ H s) (ea : H dd = some (.xd fs)) : ∃ od, InstAt s.heap a oe D (some od) := by
  obtain ⟨ha, _⟩ := I.pin (a, oe) (List.mem_append.mpr (.inl List.mem_cons_self))
  obtain ⟨vs, hd⟩ := hf
  have hx : ObjOk X.prog X.w H s.heap dd (.xd fs) := I.hok dd _ ea
  obtain ⟨mA, hns, hr⟩ := hx
  obtain ⟨od, ho, hl⟩ := lookIn_ns hns
  exact ⟨od, ha, hz.1, by unfold PySem.W.notCls; rw [hd] <;> rfl, by rw [hz.2]; exact ho⟩
theorem call_isO (C : ExcC X.K D) (hz : Zc cls d oe) (hf : ∃ vs, oe.data = .fields vs) : CallR (X.suite a ((a, oe) :: pn)) (.builtin "isinstance") (rIsO X.K D a cls d) := by
  intro pins s σ H xs us Q I r h
  obtain ⟨rfl, dd, fs, c, cv, b, rfl, ea, rfl, hcv, e, q⟩ := h
  cases r with
  | cons rx rr =>
    cases rr with
    | cons rt rr =>
      cases rr
      cases rx
      have ec := hcv _ rt
      subst ec
      obtain ⟨od, J⟩ := inst_of hz hf I ea
      exact PySem.W.kia_one (kitx_excO C) I.kIn J e (fun z => nomatch z) fun tk => ⟨.bl b, H, I.kept (t' := tk) fun _ _ z => z, rfl, q⟩
theorem call_isOT (C : ExcC X.K D) (hz : Zc cls d oe) (hf : ∃ vs, oe.data = .fields vs) : CallR (X.suite a ((a, oe) :: pn)) (.builtin "isinstance") (rIsOT X.K D a cls d) := by
  intro pins s σ H xs us Q I r h
  obtain ⟨rfl, dd, tp, fs, cs, ws, b, rfl, ea, rfl, hT, k, e, q⟩ := h
  cases r with
  | cons rx rr =>
    cases rr with
    | cons rt rr =>
      cases rr
      cases rx
      rename_i u2
      cases (show u2 = Value.ref tp from rt)
      obtain ⟨od, J⟩ := inst_of hz hf I ea
      obtain ⟨_, its, rv, o, h1, h2, n, h3⟩ := (show ObjOk X.prog X.w H s.heap tp (.tup cs) from I.hok tp _ hT)
      have e3 := ClsV.all k rv
      subst e3
      obtain ⟨oc, od', dt, sl⟩ := o
      simp only at h2 h3
      subst h2 h3
      exact PySem.W.kia_tup (kitx_excO C) I.kIn J h1 e (fun z => nomatch z) fun tk => ⟨.bl b, H, I.kept (t' := tk) fun _ _ z => z, rfl, q⟩
end
end Kk

set_option maxHeartbeats 4000000
namespace Kk
open PySem PySem.Spec PySem.W PySem.Calls PyProof.Rows L2
/-- isinstance(e, (c, ..)) of a caught error that has no fields -/
def rIsNT (K : PySem.W.Frag) (D a : Addr) : List V → Hp → VK → Prop := fun xs H Q => ∃ (tp : Addr) (cs : List V) (us : List Value) (b : Bool), xs = [.ref a, .ref tp] ∧ H tp = some (.tup cs) ∧ Paired ClsV cs us ∧ PySem.W.kitAny K (.ref D) us = some b ∧ Q (.bl b) H
theorem call_isNT {X : Cx} {a D : Addr} {cls : Value} {d : Option Addr} {oe : Obj} {pn : List (Addr × Obj)} (C : ExcC X.K D) (hz : Zc cls d oe) (hf : ∃ vs, oe.data = .fields vs) : CallR (X.suite a ((a, oe) :: pn)) (.builtin "isinstance") (fun xs H Q => cls = .ref D ∧ d = none ∧ rIsNT X.K D a xs H Q) := by
  intro pins s σ H xs us Q I r h
  obtain ⟨rfl, rfl, tp, cs, ws, b, rfl, hT, k, e, q⟩ := h
  cases r with
  | cons rx rr =>
    cases rr with
    | cons rt rr =>
      cases rr
      cases rx
      rename_i u2
      cases (show u2 = Value.ref tp from rt)
      obtain ⟨hget, _⟩ := I.pin (a, oe) (List.mem_append.mpr (.inl List.mem_cons_self))
      obtain ⟨vs, hv⟩ := hf
      have J : PySem.W.InstAt s.heap a oe D none := by
        obtain ⟨oc, od, oda, osl⟩ := oe
        obtain ⟨h1, h2⟩ := hz
        dsimp only at h1 h2 hv
        subst h1 h2 hv
        exact ⟨hget, rfl, rfl, trivial⟩
      obtain ⟨_, its, rv, o, h1, h2, n, h3⟩ := (show ObjOk X.prog X.w H s.heap tp (.tup cs) from I.hok tp _ hT)
      have e3 := ClsV.all k rv
      subst e3
      obtain ⟨oc, od', dt, sl⟩ := o
      simp only at h2 h3
      subst h2 h3
      exact PySem.W.kia_tup (PySem.W.handS_kitx_exc C.hg C.hk C.hs C.hd C.ha C.hn C.ht C.hm) I.kIn J h1 e (fun z => nomatch z) fun tk => ⟨.bl b, H, I.kept (t' := tk) fun _ _ z => z, rfl, q⟩
/-- isinstance of a caught error that has no fields -/
theorem call_isEN {X : Cx} {a D : Addr} {cls : Value} {d : Option Addr} {oe : Obj} {pn : List (Addr × Obj)} (C : ExcC X.K D) (hz : Zc cls d oe) (hf : ∃ vs, oe.data = .fields vs) : CallR (X.suite a ((a, oe) :: pn)) (.builtin "isinstance") (fun xs H Q => cls = .ref D ∧ d = none ∧ rIsE X.K D a xs H Q) := by
  intro pins s σ H xs us Q I r h
  obtain ⟨e1, e2, h⟩ := h
  subst e1 e2
  exact call_isE C hz hf pins s σ H xs us Q I r h
/-- a def that may raise, that may be called -/
structure ClX (P : Program) (w : World) (K : PySem.W.Frag) (mg : Str → Option Value) (base : Heap) (k : Nat) (x : Str) (ps : List Str) (sp : Sp) (f : Addr) (fd : FuncData) : Prop where
  g : FnOk P w K mg base (L2.CX P w) k f fd ps sp
  k : PySem.W.keepIn K (.ref f) = true
  b : Binds K fd ps []
  m : mg x = some (.ref f)
end Kk

set_option maxHeartbeats 8000000
set_option pp.maxSteps 400
set_option pp.deepTerms false
namespace K48
open PySem PySem.Spec PyProof.Rows L2 Kk RZ
abbrev s_coded : Stmt := topS 31
abbrev n_coded : List Str := ["row", "hands", "trace", "laying", "at", "part"]
theorem sc_coded : FnScope n_coded ["row", "hands"] (defScope s_coded) := ⟨rfl, rfl, rfl, by decide +kernel, rfl, by decide +kernel, by decide +kernel⟩
/-- what the written part says of NoCode -/
structure NcT (K : PySem.W.Frag) (mg : Str → Option Value) (CN : Addr) : Prop where
  gC : mg "NoCode" = some (.ref CN)
  x : PySem.W.excIn K CN [.type "ValueError", .type "Exception", .type "BaseException", .type "object"] "ValueError.__new__" = true
  k : PySem.W.keepIn K (.ref CN) = true
  b : PySem.W.subIn K (.ref CN) (.type "BaseException") = some true
  t : PySem.W.typeIn K (.ref CN) = some (.type "type")
def Out (CN : Addr) (E : XK) (xs : List Addr) (H : Hp) : Prop := ∀ H', Ex xs H H' → E (.ref CN) none H'
/-- a row that coded is asked for: with a word that is not straight, or of drawn words -/
def RowIn (K : PySem.W.Frag) (T5 T6 : Addr) (H : Hp) (r : Addr) : Option (List Wo) → Prop
  | none => ∃ (xs : List V) (ks : List Str), SqT K H r xs ∧ GxR.TabG H T6 ∧ P2 (KdH K H) xs ks ∧ ks.length ≤ 500 ∧ ks.all strB = false
  | some ws => ∃ (xs : List V) (B Wn : List Str), SqT K H r xs ∧ GxR.TabG H T6 ∧ GxR.TabG H T5 ∧ P2 (WoH K H) xs ws ∧ (∀ W ∈ ws, WdR B Wn W) ∧ (∀ s ∈ Wn, PoolOk s) ∧ ws.length ≤ 59
section
variable {P : Program} {w : World} {K : PySem.W.Frag} {mg : Str → Option Value} {base : Heap}
def spCoded (K : PySem.W.Frag) (CN T5 T6 : Addr) : Sp := fun vs H Q E => ∃ (r : Addr) (n : Nat) (o : Option (List Wo)), vs = [.ref r, .int n] ∧ 3 ≤ n ∧ n ≤ 20 ∧ RowIn K T5 T6 H r o ∧ ((∀ ws, o = some ws → ¬ NoK ws) → Out CN E [] H) ∧
  (∀ ws, o = some ws → NoK ws → ∀ H' t us os, Ex [] H H' → SqT K H' t us → P2 (OrH K H') us os → LaidOk n ws os → os.length ≤ 700 → Q (.ref t) H')
theorem ok_coded {f f1 f2 CN CM CT CL fI fT fN fL fD fW T5 T6 : Addr} {fd d1 d2 fdI fdT fdN fdL fdD fdW : FuncData} {k : Nat} (F : Fun K "coded" "coded" s_coded f fd) (T : TT K mg CT) (TMk : TM K mg CM) (TLk : TL K mg CL) (TN : NcT K mg CN)
    (MM : Mk K CM fI) (GI : FnOk P w K mg base CX0 k fI fdI ["self"] (spFoInit CM)) (bI : Binds K fdI ["self"] []) (MT : Mk K CT fT) (GT : FnOk P w K mg base CX0 k fT fdT ["self", "row", "forms"] (spTrInit K CM CT)) (bT : Binds K fdT ["self", "row", "forms"] [])
    (GN : FnOk P w K mg base CX0 (k + 1) fN fdN ["self"] (spKeepsN CM CT T5)) (mN : Meth K CT "keeps_nothing" fN) (bN : Binds K fdN ["self"] [])
    (ML : Mk K CL fL) (GL : FnOk P w K mg base CX0 k fL fdL n_linit (spLyInit K CM CL)) (bL : Binds K fdL n_linit [])
    (GD : FnOk P w K mg base CX0 (k + 1) fD fdD ["self", "at", "part"] (spDo K CM CL)) (mD : Meth K CL "do" fD) (bD : Binds K fdD ["self", "at", "part"] []) (GW : FnOk P w K mg base CX0 (k + 1) fW fdW ["self"] (spWipeAll K CM CL)) (mW : Meth K CL "wipe_all" fW) (bW : Binds K fdW ["self"] [])
    (C_is_straight : Cl P w K mg base (k + 1) "is_straight" ["row"] (spStr K T6) f1 d1) (C_last_asked : Cl P w K mg base (k + 1) "last_asked" ["parts"] (spLast K) f2 d2) (m_enumerate : mg "enumerate" = none) (m_tuple : mg "tuple" = none) : FnOk P w K mg base (L2.CX P w) (k + 2) f fd ["row", "hands"] (spCoded K CN T5 T6) := by
  refine F.okX sc_coded (fun vs H Q E h => ?_) (fun cdv A outer s H vs Q E hr h => ?_)
  · obtain ⟨r, n, o, rfl, _⟩ := h; rfl
  · obtain ⟨r, n, o, rfl, hn3, hn20, hR, qx, q⟩ := h
    refine ⟨_, (pss_cons (ps_if (pt_not (pt_val (pe_call C_is_straight.g hr (by rfl) C_is_straight.m C_is_straight.k C_is_straight.b .nil pass0 (pa_cons (pv 0) pa_nil)))) (pss_one (ps_raise rfl (takes_of rfl rfl rfl rfl) (pmk_own PySem.F.excBase_ValueError TN.x TN.gC TN.k (raises_own TN.b TN.t) rfl))) pss_nil)
      (pss_cons (ps_set (i := 2) sc_coded.nd rfl (.inl rfl) (pe_make MT GT hr (by rfl) T.mgC bT .nil pass0 (pa_cons (pv 0) (pa_cons (pe_make0 MM GI hr (by rfl) TMk.mgC bI .nil pass0) pa_nil))))
      (pss_cons (ps_if (pt_not (pt_val (pe_meth0 (pv 2) T.cl mN GN hr bN .nil pass0))) (pss_one (ps_raise rfl (takes_of rfl rfl rfl rfl) (pmk_own PySem.F.excBase_ValueError TN.x TN.gC TN.k (raises_own TN.b TN.t) rfl))) pss_nil)
      (PSs.nox (pss_cons (ps_set (i := 3) sc_coded.nd rfl (.inl rfl) (pe_make ML GL hr (by rfl) TLk.mgC bL .nil pass0 (pa_cons (pe_fld (pv 2) rfl) (pa_cons (pe_call C_last_asked.g hr (by rfl) C_last_asked.m C_last_asked.k C_last_asked.b .nil pass0 (pa_cons (pe_fld (pv 2) rfl) pa_nil)) (pa_cons (pv 1) pa_nil)))))
      (pss_cons (ps_for PassesOwn.never rfl (pi_enum (by rfl) m_enumerate (pa_cons (pe_fld (pv 2) rfl) pa_nil)) (pg_tup rfl (pgs_cons (pg_name (i := 4) sc_coded.nd rfl (.inl rfl)) (pgs_cons (pg_name (i := 5) sc_coded.nd rfl (.inl rfl)) pgs_nil))) (pss_one (ps_expr (pe_meth (pv 3) TLk.cl mD GD hr bD .nil pass0 (pa_cons (pv 4) (pa_cons (pv 5) pa_nil))))))
      (pss_cons (ps_expr (pe_meth0 (pv 3) TLk.cl mW GW hr bW .nil pass0))
      (pss_one (ps_ret (pe_callTy call_tuple_of (by rfl) m_tuple (by decide +kernel) (pa_cons (pe_fld (pv 3) rfl) pa_nil))))))))))), ?_⟩
    cases o with
    | none =>
      obtain ⟨xs, ks, hs, t6, hk, hkl, hb⟩ := hR
      refine ⟨.ref r, rfl, r, xs, ks, rfl, hs, t6, hk, hkl, fun H1 x1 => ⟨_, rfl, ?_⟩⟩
      rw [hb]
      exact iteT (qx (fun ws e => by cases e) H1 x1)
    | some ws =>
    obtain ⟨xs, B, Wn, hs, t6, t5, hw, hwd, hpo, hwl⟩ := hR
    obtain ⟨k1, k2⟩ := kds_straight hw
    have hq := q ws rfl
    have hqx : ¬ NoK ws → Out CN E [] H := fun h => qx fun ws' e => by cases e; exact h
    clear q qx
    refine ⟨.ref r, rfl, r, xs, _, rfl, hs, t6, k1, by rw [List.length_map]; omega, fun H1 x1 => ⟨_, rfl, ?_⟩⟩
    rw [k2]
    refine iteF ⟨.ref r, rfl, fun fm dx nfm ndx nex => ?_⟩
    have xd : Ex [] H1 (upd H1 dx (.own fm)) := .new ndx
    have nfm2 : (upd H1 dx (.own fm)) fm = none := by rw [upd_ne nex.symm]; exact nfm
    have xf : Ex [] (upd H1 dx (.own fm)) (upd (upd H1 dx (.own fm)) fm (.ins CM dx [])) := .new nfm2
    refine ⟨fm, dx, rfl, upd_same, fun H2 mk kn kp x2 n1 n2 n3 F2 => ⟨rfl, ?_⟩⟩
    have x12 : Ex [] H1 H2 := ex_onto (fun z hz => by rw [List.mem_singleton.mp hz]; exact .inr nfm) (xd.trans xf) x2
    have x02 := x1.trans x12
    have m1 : H mk = none := x1.f _ ((xd.trans xf).f _ n1)
    have m2 : H kn = none := x1.f _ ((xd.trans xf).f _ n2)
    have m3 : H kp = none := x1.f _ ((xd.trans xf).f _ n3)
    clear n1 n2 n3 x2 xd xf nfm2
    obtain ⟨_, ⟨mvs, hmk, _⟩, hkn, hkp, _⟩ := id F2
    refine fun tr dt ntr ndt net => ?_
    have xd : Ex [] H2 (upd H2 dt (.own tr)) := .new ndt
    have ntr2 : (upd H2 dt (.own tr)) tr = none := by rw [upd_ne net.symm]; exact ntr
    have xf : Ex [] (upd H2 dt (.own tr)) (upd (upd H2 dt (.own tr)) tr (.ins CT dt [])) := .new ntr2
    have x34 := xd.trans xf
    have trfm : tr ≠ fm := fun z => by
      obtain ⟨⟨_, _, h1, _⟩, _⟩ := F2
      rw [z, h1] at ntr; cases ntr
    have ht4 : (upd (upd H2 dt (.own tr)) tr (.ins CT dt [])) tr = some (.ins CT dt []) := upd_same
    generalize upd (upd H2 dt (.own tr)) tr (.ins CT dt []) = H4 at x34 ht4 ⊢
    clear xd xf ntr2
    have x04 := x02.trans x34
    refine ⟨tr, dt, r, fm, mk, kn, kp, xs, ws, true, [.number 0], rfl, ht4, F2.nil x34, trfm, .inl (x04.seqT hs), hw.imp fun _ _ h => h.ex x04, fun W hW => (hwd W hW).kd, by omega, by decide, by decide, fun H5 bx pt pvs x5 T5' F5 B5 hpt hpp nbx npt => ⟨rfl, ?_⟩⟩
    have okM := runT_ok (n0 := 1) (t := ⟨[.number 0], [], 0, []⟩) ⟨by decide, by decide, by decide, by decide, by simp⟩ ws
    have x25 : Ex [mk, kn, kp] H2 H5 := ex_onto (fun z hz => by
      simp only [List.mem_cons, List.not_mem_nil, or_false] at hz
      rcases hz with rfl | rfl | rfl | rfl
      · exact .inr ntr
      · exact .inl (by simp)
      · exact .inl (by simp)
      · exact .inl (by simp)) (x34.nil (ys := [mk, kn, kp])) x5
    have nb4 : bx ≠ kn := fun z => by
      have h := x34.a kn _ (by simp) hkn (fun _ z => by cases z)
      rw [z, h] at nbx; cases nbx
    obtain ⟨dx5, fs5, t1', t2, t3, t4, t5', t6', t7, t8, t9, t10⟩ := id T5'
    have x05 : Ex [] H H5 := ex_onto (fun z hz => by
      simp only [List.mem_cons, List.not_mem_nil, or_false] at hz
      rcases hz with rfl | rfl | rfl
      · exact .inr m1
      · exact .inr m2
      · exact .inr m3) x02 x25
    have lps : (runT ⟨[.number 0], [], 0, []⟩ ws).ps.length = ws.length := by
      have h := runT_len (t := ⟨[.number 0], [], 0, []⟩) (ws := ws)
      exact h.trans (Nat.zero_add _)
    refine ⟨.ref tr, rfl, tr, dx5, fs5, rfl, t1', t9, tr, fm, bx, pt, mk, kn, kp, _, _, true, _, rfl, x05.t _ t5, T5', F5, B5, nb4, okM.v, Nat.le_trans okM.d (by omega), fun H6 x6 => ?_⟩
    have x06 := x05.trans x6
    refine ⟨_, rfl, ?_⟩
    cases eK : anyK (runT ⟨[.number 0], [], 0, []⟩ ws).ms (runT ⟨[.number 0], [], 0, []⟩ ws).dv with
    | true => exact iteT (hqx (fun nk => by rw [any_nok.mpr nk] at eK; cases eK) H6 x06)
    | false =>
    refine iteF ?_
    have q := hq (any_nok.mp eK)
    clear hq hqx
    rw [tb_runT] at F5
    have F6 := F5.nil x6
    have T6' := T5'.ex x6 (by simp)
    have t16 := x6.a tr _ (by simp) t1' (fun _ z => by cases z)
    have hpt6 := x6.lst hpt
    have hpp6 := hpp.imp fun _ _ h => PartH.ex h x6
    refine ⟨.ref tr, rfl, tr, CT, dx5, fs5, .ref fm, rfl, t16, T.cl, T.n0, t2, .ref tr, rfl, tr, CT, dx5, fs5, .ref pt, rfl, t16, T.cl, T.n3, t5', pt, pvs, _, ws, rfl, hpt6, hpp6, lps, parts_at ws, by omega, fun H7 ld kvs x7 hd hk hl nd => ?_⟩
    have F7 := F6.nil x7
    obtain ⟨g1, g2, g3, g4, g5, g6⟩ := F6.ne
    obtain ⟨⟨dm6, gs6, a1, _⟩, ⟨mvs6, a2, _⟩, a3, a4, _⟩ := id F6
    have l1 : fm ≠ ld := fun z => by rw [z, nd] at a1; cases a1
    have l2 : mk ≠ ld := fun z => by rw [z, nd] at a2; cases a2
    have l3 : kn ≠ ld := fun z => by rw [z, nd] at a3; cases a3
    have l4 : kp ≠ ld := fun z => by rw [z, nd] at a4; cases a4
    refine ⟨.int n, rfl, fun ly dl nly ndl nel => ?_⟩
    have xd : Ex [] H7 (upd H7 dl (.own ly)) := .new ndl
    have nly2 : (upd H7 dl (.own ly)) ly = none := by rw [upd_ne nel.symm]; exact nly
    have xf : Ex [] (upd H7 dl (.own ly)) (upd (upd H7 dl (.own ly)) ly (.ins CL dl [])) := .new nly2
    have x78 := xd.trans xf
    have hl8 : (upd (upd H7 dl (.own ly)) ly (.ins CL dl [])) ly = some (.ins CL dl []) := upd_same
    generalize upd (upd H7 dl (.own ly)) ly (.ins CL dl []) = H8 at x78 hl8 ⊢
    clear xd xf nly2
    have x68 := x7.trans x78
    have F8 := F7.nil x78
    have hd8 := x78.a ld _ (by simp) hd (fun _ z => by cases z)
    have o1 : ly ≠ fm := fun z => by have h := x7.a fm _ (by simp) a1 (fun _ z => by cases z); rw [z, h] at nly; cases nly
    have o2 : ly ≠ mk := fun z => by rw [z, x7.lst a2] at nly; cases nly
    have o3 : ly ≠ kn := fun z => by have h := x7.a kn _ (by simp) a3 (fun _ z => by cases z); rw [z, h] at nly; cases nly
    have o4 : ly ≠ kp := fun z => by rw [z, x7.lst a4] at nly; cases nly
    have o5 : ly ≠ ld := fun z => by rw [z, hd] at nly; cases nly
    refine ⟨ly, dl, fm, ld, mk, kn, kp, ws, lastD ws ws.length, n, kvs, rfl, hl8, F8, hd8, hk, hn20, ?_, fun H9 hA sA oA x9 nA nS nO L9 => ⟨rfl, ?_⟩⟩
    · simp only [List.nodup_cons, List.mem_cons, List.not_mem_nil, or_false, not_or, List.nodup_nil, and_true, not_false_eq_true]
      exact ⟨⟨o1, o5, o2, o3, o4⟩, ⟨l1, g1, g2, g3⟩, ⟨l2.symm, l3.symm, l4.symm⟩, ⟨g4, g5⟩, g6⟩
    have hpt8 := x68.lst hpt6
    have pA : pt ≠ hA := fun z => by rw [← z, hpt8] at nA; cases nA
    have pS : pt ≠ sA := fun z => by rw [← z, hpt8] at nS; cases nS
    have pO : pt ≠ oA := fun z => by rw [← z, hpt8] at nO; cases nO
    have ply : pt ≠ ly := fun z => by have := x7.lst hpt6; rw [z, nly] at this; cases this
    have hpt9 := x9.lst hpt8 (by simpa using ply)
    have hpp9 : P2 (PartH K H9) pvs _ := hpp6.imp fun _ _ h => PartH.ex (PartH.ex h x68) x9
    have trly : tr ≠ ly := fun z => by have := x7.a tr _ (by simp) t16 (fun _ z => by cases z); rw [z, nly] at this; cases this
    have t19 := x9.a tr _ (by simpa using trly) (x68.a tr _ (by simp) t16 (fun _ z => by cases z)) (fun _ z => by cases z)
    have lpv : pvs.length = ws.length := hpp.len.trans lps
    have nums := nums_ok hwd
    have lok := last_ok ws
    have fin : ∀ {Hx : Hp}, Ex [hA, sA, oA] H9 Hx → Ex [] H Hx := fun x => (x06.trans x7).trans (ex_onto (fun z hz => by
      simp only [List.mem_cons, List.not_mem_nil, or_false] at hz
      rcases hz with rfl | rfl | rfl | rfl
      · exact .inr nly
      · exact .inr (x78.f _ nA)
      · exact .inr (x78.f _ nS)
      · exact .inr (x78.f _ nO)) x78 ((x9.mono (ys := [ly, hA, sA, oA]) (by simp)).trans (x.mono (by simp))))
    refine ⟨.ref tr, rfl, tr, CT, dx5, fs5, .ref pt, rfl, t19, T.cl, T.n3, t5', pt, pvs, rfl, .of hpt9, ?_⟩
    refine for_it (walk_enum (K := K) (a := pt) (xs := pvs)) (fun i σ H2 => ∃ (z4 z5 : Option V) (hs ss : List Nat) (os : List Or), σ = [some (.ref r), some (.int n), some (.ref tr), some (.ref ly), z4, z5] ∧ LyH K CM CL H2 ly fm ld hA sA oA mk kn kp ws (lastD ws ws.length) hs ss os ∧ LInv n ws (lastD ws ws.length) i i hs ss os ∧ os.length ≤ 7 * i ∧ Ex [hA, sA, oA] H9 H2) ⟨_, _, _, _, [], rfl, L9, .start, Nat.le_refl _, .refl⟩ ?_ ?_ ?_
    · rintro i σ H2 _ ⟨_, _, _, _, _, _, _, _, _, x⟩
      exact .of (x.lst hpt9 (by simp [pA, pS, pO]))
    · rintro i v9 σ0 H10 H11 hi ⟨z4, z5, hs1, ss1, os1, rfl, L10, I10, lo10, x10⟩ ⟨T9, xa, xb, rfl, n9, rfl, hxa, hxb⟩
      obtain rfl : V.int (i : Nat) = xa := Option.some.inj hxa
      have hxb : pvs[i]? = some xb := hxb
      have hi : i < ws.length := by rw [← lpv]; exact (List.getElem?_eq_some_iff.mp hxb).1
      obtain ⟨p, hp1, hp2⟩ := hpp9.getL hxb
      obtain ⟨yT, hT9⟩ := nw46 (o := .tup [V.int i, xb]) n9
      have L11 := L10.mono yT
      have hp11 := PartH.ex (PartH.ex hp2 x10) yT
      generalize upd H10 T9 (.tup [V.int i, xb]) = H11 at yT hT9 L11 hp11 ⊢
      refine ⟨T9, _, rfl, .of hT9, rfl, _, _, rfl, _, _, rfl, rfl, ?_⟩
      obtain ⟨⟨dxl, fsl, b1, b2, b3, b4, b5, b6, mm1, mm2, mm3, mm4, mm5, mm6, mm7, br⟩, _⟩ := id L11
      have pa : pAt ws i = some p := by rw [← parts_at ws i]; exact hp1
      refine ⟨.ref ly, rfl, ly, dxl, fsl, rfl, b1, mm7, .int i, rfl, xb, rfl, ly, fm, ld, hA, sA, oA, mk, kn, kp, ws, _, hs1, ss1, os1, n, i, xb, p, rfl, L11, I10, by omega, by omega, hn20, hn3, nums, lok, hp11, pa, fun b s e => hpo s (hwd _ (List.mem_of_getElem? e)).2, fun H' hs' ss' os' x' L' I' lo => ?_⟩
      exact ⟨_, _, hs', ss', os', rfl, L', I', by omega, (x10.trans yT.nil).trans x'⟩
    · rintro σ H2 ⟨z4, z5, hs1, ss1, os1, rfl, L10, I10, lo10, x10⟩
      rw [lpv] at I10 lo10
      obtain ⟨⟨dxl, fsl, b1, b2, b3, b4, b5, b6, mm1, mm2, mm3, mm4, mm5, mm6, mm7, mm8, mm9, mm10, br⟩, _⟩ := id L10
      refine ⟨.ref ly, rfl, ly, dxl, fsl, rfl, b1, mm10, ly, fm, ld, hA, sA, oA, mk, kn, kp, ws, _, hs1, ss1, os1, n, ws.length, rfl, L10, I10, by omega, hn20, fun H' os' x' L' lo ll => ?_⟩
      obtain ⟨⟨dxl, fsl, b1, b2, b3, b4, b5, b6, br⟩, _, _, _, _, ⟨us, ho, hus⟩, _⟩ := id L'
      refine ⟨.ref ly, rfl, ly, CL, dxl, fsl, .ref oA, rfl, b1, TLk.cl, TLk.n4, b6, oA, us, rfl, .inl ⟨.of ho, fun t nt => ?_⟩⟩
      obtain ⟨yt, ht⟩ := nw46 (o := .tup us) nt
      exact q _ t us os' (fin ((x10.trans (x'.mono (by simp))).trans yt.nil)) (.of ht) (hus.imp fun _ _ h => Tp.ex (e := yt) h) lo (by omega)
end
end K48

set_option maxHeartbeats 4000000
namespace K48
open PySem PySem.Spec PyProof.Rows L2 Kk
/-! == of data of texts and whole numbers -/
inductive NB : PyData → Prop
  | int (i : Int) : NB (.int i)
  | str (s : Str) : NB (.str s)
  | tup {ds : List PyData} (h : ∀ d ∈ ds, NB d) : NB (.tuple ds)
theorem nb_refl {d : PyData} (h : NB d) : PyData.eqv d d = true := by
  induction h with
  | int i => rw [PyData.eqv]; simp
  | str s => rw [PyData.eqv]; simp
  | @tup ds h ih =>
    rw [PyData.eqv]
    clear h
    induction ds with
    | nil => rw [PyData.eqvAll]
    | cons a r ih2 => rw [PyData.eqvAll, ih a List.mem_cons_self, ih2 fun d hd => ih d (List.mem_cons_of_mem _ hd)]; rfl
theorem nb_eq {d : PyData} (h : NB d) : ∀ {e : PyData}, NB e → PyData.eqv d e = true → d = e := by
  induction h with
  | int i =>
    intro e he q
    cases he with
    | int j => rw [PyData.eqv] at q; rw [eq_of_beq q]
    | str s => rw [PyData.eqv] at q; cases q
    | tup _ => rw [PyData.eqv] at q; cases q
  | str s =>
    intro e he q
    cases he with
    | int j => rw [PyData.eqv] at q; cases q
    | str s => rw [PyData.eqv] at q; rw [eq_of_beq q]
    | tup _ => rw [PyData.eqv] at q; cases q
  | @tup ds h ih =>
    intro e he q
    cases he with
    | int j => rw [PyData.eqv] at q; cases q
    | str s => rw [PyData.eqv] at q; cases q
    | @tup es h2 =>
      rw [PyData.eqv] at q
      clear h
      congr 1
      induction ds generalizing es with
      | nil => cases es with
        | nil => rfl
        | cons b s => rw [PyData.eqvAll] at q; cases q
      | cons a r ih2 => cases es with
        | nil => rw [PyData.eqvAll] at q; cases q
        | cons b s =>
          rw [PyData.eqvAll, Bool.and_eq_true_iff] at q
          rw [ih a List.mem_cons_self (h2 b List.mem_cons_self) q.1, ih2 (fun d hd => ih d (List.mem_cons_of_mem _ hd)) (fun d hd => h2 d (List.mem_cons_of_mem _ hd)) q.2]
theorem nb_list {xs ys : List PyData} (h1 : ∀ d ∈ xs, NB d) (h2 : ∀ d ∈ ys, NB d) : PyData.eqv (.list xs) (.list ys) = true ↔ xs = ys := by
  have e : PyData.eqv (.list xs) (.list ys) = PyData.eqv (.tuple xs) (.tuple ys) := by rw [PyData.eqv, PyData.eqv]
  rw [e]
  constructor
  · intro h; exact PyData.tuple.inj (nb_eq (.tup h1) (.tup h2) h)
  · intro h; rw [← h]; exact nb_refl (.tup h1)
/-! the law's own forms: where takes and asks come alike -/
def kF : Fo → List L2.Key
  | .number n => kyN "number" n
  | .take n => kyN "came" (n : Nat)
  | .ask n => kyN "ask" (n : Nat)
  | .mix i j => [.inr (Str.ofString "mix"), .inl (i : Nat), .inl (j : Nat)]
  | .opn i => kyN "open" (i : Nat)
theorem kF_inj {m m' : Fo} (h : kF m = kF m') : m = m' := by
  have ne : ∀ {a b : Str} {x y : List L2.Key}, ((Sum.inr a : L2.Key) :: x) = (Sum.inr b : L2.Key) :: y → a = b := fun h => Sum.inr.inj (List.cons.inj h).1
  have o1 : ∀ {a b : Str} {x y : Int}, ([.inr a, .inl x] : List L2.Key) = [.inr b, .inl y] → x = y := fun h => Sum.inl.inj (List.cons.inj (List.cons.inj h).2).1
  cases m <;> cases m' <;> first
    | (have := o1 h; first | (subst this; rfl) | (congr 1; omega))
    | exact absurd (ne h) (by decide +kernel)
    | skip
  case mix.mix i j i' j' =>
    have h1 := Sum.inl.inj (List.cons.inj (List.cons.inj h).2).1
    have h2 := Sum.inl.inj (List.cons.inj (List.cons.inj (List.cons.inj h).2).2).1
    rw [show i = i' by omega, show j = j' by omega]
theorem ixL_map {m : Fo} : ∀ {ms : List Fo} {k : Nat}, ixL k (ms.map kF) (kF m) = ixG k ms m
  | [], _ => rfl
  | a :: r, k => by
    rw [List.map_cons]
    unfold ixL ixG
    by_cases e : a = m
    · rw [if_pos (by rw [e]), if_pos e]
    · rw [if_neg fun z => e (kF_inj z), if_neg e, ixL_map]
theorem lform_map {ms : List Fo} {m : Fo} : lform (ms.map kF) (kF m) = ((made ms m).1.map kF, (made ms m).2) := by
  unfold lform made
  rw [ixL_map]
  cases ixG 0 ms m with
  | some i => rfl
  | none => show (ms.map kF ++ [kF m], (ms.map kF).length) = ((ms ++ [m]).map kF, ms.length); rw [List.map_append, List.length_map]; rfl
structure Bs where
  ms : List Fo
  g : Bx → Nat
  X : List (Str × List PyData × List Nat)
def formL (ms : List Fo) (n : Nat) (as : List Nat) : Wo → List Fo × Option Nat
  | .wipe _ => ((made ms (.number 0)).1, some (made ms (.number 0)).2)
  | .copy _ _ => (ms, some (as.getD 0 0))
  | .number _ v => ((made ms (.number v)).1, some (made ms (.number v)).2)
  | .take _ _ => ((made ms (.take (n + 1))).1, some (made ms (.take (n + 1))).2)
  | .ask _ => ((made ms (.take (n + 1))).1, some (made ms (.take (n + 1))).2)
  | .mix _ _ _ => ((made ms (.mix (as.getD 0 0) (as.getD 1 0))).1, some (made ms (.mix (as.getD 0 0) (as.getD 1 0))).2)
  | .opn _ _ => ((made ms (.opn (as.getD 0 0))).1, some (made ms (.opn (as.getD 0 0))).2)
  | .tell _ => (ms, none)
def stepB (b : Bs) (W : Wo) : Bs := ⟨(formL b.ms b.X.length ((askB W).map b.g) W).1, setG b.g (boxW W) (formL b.ms b.X.length ((askB W).map b.g) W).2, if isO W = true then b.X ++ [(kdW W, restW W, (askB W).map b.g)] else b.X⟩
def runB (b : Bs) (ws : List Wo) : Bs := ws.foldl stepB b
def deedP (x : Str × List PyData × List Nat) : PyData := .tuple (.str x.1 :: (x.2.1 ++ x.2.2.map fun n : Nat => PyData.int n))
structure RB (l : Ld) (b : Bs) : Prop where
  k : l.ks = b.ms.map kF
  g : ∀ c, (hg 0 l.hv c).1 = b.g c
  d : l.ds = b.X.map deedP
theorem RB.step {l : Ld} {b : Bs} (h : RB l b) (W : Wo) : RB (stepL 0 l W) (stepB b W) := by
  have st : ∀ (c : Bx) (p : Nat × Bool) (n : Nat), p.1 = n → ∀ a, (hg 0 (stB l.hv c p) a).1 = setG b.g c (some n) a := fun c p n e a => by
    unfold hg
    rw [lkB_st]
    show _ = if a = c then n else b.g a
    split
    · exact e
    · exact h.g a
  have dl : l.ds.length = b.X.length := by rw [h.d, List.length_map]
  have lf : ∀ m, lform l.ks (kF m) = ((made b.ms m).1.map kF, (made b.ms m).2) := fun m => by rw [h.k]; exact lform_map
  cases W with
  | take c s =>
    have e := lf (.take (b.X.length + 1))
    rw [show kF (.take (b.X.length + 1)) = kyN "came" (l.ds.length + 1 : Nat) by rw [dl]; rfl] at e
    refine ⟨congrArg Prod.fst e, st _ _ _ (congrArg Prod.snd e), ?_⟩
    show l.ds ++ [_] = (b.X ++ [_]).map deedP
    rw [List.map_append, h.d]; rfl
  | ask c =>
    have e := lf (.take (b.X.length + 1))
    rw [show kF (.take (b.X.length + 1)) = kyN "came" (l.ds.length + 1 : Nat) by rw [dl]; rfl] at e
    refine ⟨congrArg Prod.fst e, st _ _ _ (congrArg Prod.snd e), ?_⟩
    show l.ds ++ [_] = (b.X ++ [_]).map deedP
    rw [List.map_append, h.d]; rfl
  | tell c =>
    refine ⟨h.k, h.g, ?_⟩
    show l.ds ++ [.tuple [.str (Str.ofString "tell"), .int (hg 0 l.hv c).1]] = (b.X ++ [_]).map deedP
    rw [List.map_append, h.d, h.g c]; rfl
  | number c n =>
    have e := lf (.number n)
    exact ⟨congrArg Prod.fst e, st _ _ _ (congrArg Prod.snd e), h.d⟩
  | wipe c =>
    have e := lf (.number 0)
    exact ⟨congrArg Prod.fst e, st _ _ _ (congrArg Prod.snd e), h.d⟩
  | copy c d => exact ⟨h.k, st _ _ _ (h.g d), h.d⟩
  | mix c d f =>
    have e := lf (.mix (b.g d) (b.g f))
    rw [show kF (.mix (b.g d) (b.g f)) = [.inr (Str.ofString "mix"), .inl (hg 0 l.hv d).1, .inl (hg 0 l.hv f).1] by rw [h.g, h.g]; rfl] at e
    exact ⟨congrArg Prod.fst e, st _ _ _ (congrArg Prod.snd e), h.d⟩
  | opn c d =>
    have e := lf (.opn (b.g d))
    rw [show kF (.opn (b.g d)) = kyN "open" (hg 0 l.hv d).1 by rw [h.g]; rfl] at e
    exact ⟨congrArg Prod.fst e, st _ _ _ (congrArg Prod.snd e), h.d⟩
theorem RB.run : ∀ {ws : List Wo} {l : Ld} {b : Bs}, RB l b → RB (runL 0 l ws) (runB b ws)
  | [], _, _, h => h
  | W :: r, _, _, h => RB.run (ws := r) (h.step W)
/-! the law's forms as trees -/
structure Tl where
  g : Bx → FT
  X : List (Str × List PyData × List FT)
def tL (n : Nat) (as : List FT) : Wo → Option FT
  | .wipe _ => some (.number 0)
  | .copy _ _ => some (as.getD 0 (.number 0))
  | .number _ v => some (.number v)
  | .take _ _ => some (.take (n + 1))
  | .ask _ => some (.take (n + 1))
  | .mix _ _ _ => some (.mix (as.getD 0 (.number 0)) (as.getD 1 (.number 0)))
  | .opn _ _ => some (.opn (as.getD 0 (.number 0)))
  | .tell _ => none
def stepTl (t : Tl) (W : Wo) : Tl := ⟨setT t.g (boxW W) (tL t.X.length ((askB W).map t.g) W), if isO W = true then t.X ++ [(kdW W, restW W, (askB W).map t.g)] else t.X⟩
def runTl (t : Tl) (ws : List Wo) : Tl := ws.foldl stepTl t
def tl0 : Tl := ⟨fun _ => .number 0, []⟩
theorem runTl_app (t : Tl) (u v : List Wo) : runTl t (u ++ v) = runTl (runTl t u) v := by unfold runTl; rw [List.foldl_append]
structure TrB (b : Bs) (t : Tl) : Prop where
  w : WF b.ms
  nd : b.ms.Nodup
  v : ∀ c, b.g c < b.ms.length
  g : ∀ c, tr b.ms (b.g c) = t.g c
  x : ∀ x ∈ b.X, ∀ n ∈ x.2.2, n < b.ms.length
  X : t.X = b.X.map fun x => (x.1, x.2.1, x.2.2.map (tr b.ms))
theorem TrB.step {b : Bs} {t : Tl} (h : TrB b t) (W : Wo) : TrB (stepB b W) (stepTl t W) ∧ b.ms <+: (stepB b W).ms := by
  have am : (askB W).map t.g = ((askB W).map b.g).map (tr b.ms) := by
    rw [List.map_map]; exact List.map_congr_left fun c _ => (h.g c).symm
  have lt : ∀ n ∈ (askB W).map b.g, n < b.ms.length := fun n hn => by
    obtain ⟨c, _, rfl⟩ := List.mem_map.mp hn; exact h.v c
  have z0 := tr_zero h.w
  have p0 : 0 < b.ms.length := by obtain ⟨⟨r, e⟩, _⟩ := h.w; rw [e]; simp
  have gd : ∀ i, ((askB W).map t.g).getD i (.number 0) = tr b.ms (((askB W).map b.g).getD i 0) := fun i => by rw [am]; exact getD_map z0
  have gl : ∀ i, ((askB W).map b.g).getD i 0 < b.ms.length := fun i => by
    rw [List.getD_eq_getElem?_getD]
    cases e : ((askB W).map b.g)[i]? with
    | none => exact p0
    | some x => exact lt x (List.mem_of_getElem? e)
  have lx : t.X.length = b.X.length := by rw [h.X, List.length_map]
  -- what the form is, and what it stands for
  have key : ∀ (ms' : List Fo) (o : Option Nat) (ot : Option FT), WF ms' → ms'.Nodup → b.ms <+: ms' → (∀ n, o = some n → n < ms'.length ∧ ot = some (tr ms' n)) → (o = none → ot = none) → TrB ⟨ms', setG b.g (boxW W) o, if isO W = true then b.X ++ [(kdW W, restW W, (askB W).map b.g)] else b.X⟩ ⟨setT t.g (boxW W) ot, if isO W = true then t.X ++ [(kdW W, restW W, (askB W).map t.g)] else t.X⟩ := by
    intro ms' o ot w nd pre ho hn
    have ll := pre.length_le
    have mx : ∀ x ∈ b.X, x.2.2.map (tr ms') = x.2.2.map (tr b.ms) := fun x hx => List.map_congr_left fun n hn => tr_pre pre (h.x x hx n hn)
    refine ⟨w, nd, fun c => ?_, fun c => ?_, fun x hx n hn' => ?_, ?_⟩
    · cases o with
      | none => exact Nat.lt_of_lt_of_le (h.v c) ll
      | some n =>
        show (if c = boxW W then n else b.g c) < _
        split
        · exact (ho n rfl).1
        · exact Nat.lt_of_lt_of_le (h.v c) ll
    · cases o with
      | none => rw [hn rfl]; show tr ms' (b.g c) = t.g c; rw [tr_pre pre (h.v c), h.g]
      | some n =>
        rw [(ho n rfl).2]
        show tr ms' (if c = boxW W then n else b.g c) = if c = boxW W then tr ms' n else t.g c
        split
        · rfl
        · rw [tr_pre pre (h.v c), h.g]
    · by_cases q : isO W = true
      · have hx : x ∈ b.X ++ [(kdW W, restW W, (askB W).map b.g)] := by have := hx; simp only [if_pos q] at this; exact this
        rcases List.mem_append.mp hx with m | m
        · exact Nat.lt_of_lt_of_le (h.x x m n hn') ll
        · rw [List.mem_singleton.mp m] at hn'; exact Nat.lt_of_lt_of_le (lt n hn') ll
      · have hx : x ∈ b.X := by have := hx; simp only [if_neg q] at this; exact this
        exact Nat.lt_of_lt_of_le (h.x x hx n hn') ll
    · by_cases q : isO W = true
      · show (if isO W = true then t.X ++ [(kdW W, restW W, (askB W).map t.g)] else t.X) = (if isO W = true then b.X ++ [(kdW W, restW W, (askB W).map b.g)] else b.X).map _
        have eX : b.X.map (fun x => (x.1, x.2.1, x.2.2.map (tr b.ms))) = b.X.map (fun x => (x.1, x.2.1, x.2.2.map (tr ms'))) := List.map_congr_left fun x hx => by rw [mx x hx]
        have eA : (askB W).map t.g = ((askB W).map b.g).map (tr ms') := by rw [am]; exact List.map_congr_left fun n hn => (tr_pre pre (lt n hn)).symm
        rw [if_pos q, if_pos q, List.map_append, h.X, eX, eA]; rfl
      · show (if isO W = true then t.X ++ _ else t.X) = (if isO W = true then b.X ++ _ else b.X).map _
        rw [if_neg q, if_neg q, h.X]
        exact List.map_congr_left fun x hx => by rw [mx x hx]
  have mk : ∀ (m : Fo) (ot : FT), MkOk b.ms.length m → trF (trs b.ms) m = ot → TrB ⟨(made b.ms m).1, setG b.g (boxW W) (some (made b.ms m).2), if isO W = true then b.X ++ [(kdW W, restW W, (askB W).map b.g)] else b.X⟩ ⟨setT t.g (boxW W) (some ot), if isO W = true then t.X ++ [(kdW W, restW W, (askB W).map t.g)] else t.X⟩ ∧ b.ms <+: (made b.ms m).1 := fun m ot o e =>
    ⟨key _ _ _ (h.w.made o) (made_nd h.nd) (made_pre _ _) (fun n hn => by cases hn; exact ⟨made_some.1, by rw [tr_made h.w o, e]⟩) (fun z => by cases z), made_pre _ _⟩
  cases W with
  | wipe c => exact mk (.number 0) _ trivial rfl
  | number c v => exact mk (.number v) _ trivial rfl
  | take c s =>
    have r := mk (.take (b.X.length + 1)) (.take (t.X.length + 1)) trivial (by rw [lx]; rfl)
    exact r
  | ask c =>
    have r := mk (.take (b.X.length + 1)) (.take (t.X.length + 1)) trivial (by rw [lx]; rfl)
    exact r
  | mix c d f => exact mk (.mix _ _) _ ⟨gl 0, gl 1⟩ (by rw [gd, gd]; rfl)
  | opn c d => exact mk (.opn _) _ (gl 0) (by rw [gd]; rfl)
  | copy c d => exact ⟨key b.ms (some _) (some _) h.w h.nd (List.prefix_refl _) (fun n hn => by cases hn; exact ⟨gl 0, by rw [gd]⟩) (fun z => by cases z), List.prefix_refl _⟩
  | tell c => exact ⟨key b.ms none none h.w h.nd (List.prefix_refl _) (fun n hn => by cases hn) (fun _ => rfl), List.prefix_refl _⟩
theorem TrB.run : ∀ {ws : List Wo} {b : Bs} {t : Tl}, TrB b t → TrB (runB b ws) (runTl t ws) ∧ b.ms <+: (runB b ws).ms
  | [], _, _, h => ⟨h, List.prefix_refl _⟩
  | W :: r, _, _, h => by
    obtain ⟨h1, h2⟩ := h.step W
    obtain ⟨h3, h4⟩ := TrB.run (ws := r) h1
    exact ⟨h3, h2.trans h4⟩
def bM (ms : List Fo) : Bs := ⟨ms, fun _ => 0, []⟩
theorem trB_bM {M : List Fo} (w : WF M) (nd : M.Nodup) : TrB (bM M) tl0 :=
  ⟨w, nd, fun _ => (by obtain ⟨⟨r, e⟩, _⟩ := w; show 0 < M.length; rw [e]; simp), fun _ => tr_zero w, fun x hx => (by cases hx), rfl⟩
/-! from the law's trees to the program's -/
def tl : Str := Str.ofString "tell"
def cnt9 (D : List Str) (i : Nat) : Nat := ((D.take i).filter fun k => !decide (k = tl)).length
theorem cnt_succ {D : List Str} {i : Nat} {k : Str} (h : D[i]? = some k) : cnt9 D (i + 1) = cnt9 D i + if k = tl then 0 else 1 := by
  unfold cnt9
  rw [List.take_add_one, h, List.filter_append, List.length_append]
  congr 1
  by_cases e : k = tl
  · rw [if_pos e]; simp [e]
  · rw [if_neg e]; simp [e]
theorem cnt_mono {D : List Str} {i j : Nat} (h : i ≤ j) : cnt9 D i ≤ cnt9 D j := by
  obtain ⟨k, rfl⟩ := Nat.le.dest h
  clear h
  induction k with
  | zero => exact Nat.le_refl _
  | succ k ih =>
    refine Nat.le_trans ih ?_
    show cnt9 D (i + k) ≤ cnt9 D (i + k + 1)
    cases e : D[i + k]? with
    | none => unfold cnt9; rw [List.take_add_one, e]; simp
    | some x => rw [cnt_succ e]; omega
def fi (D : List Str) : FT → FT
  | .number n => .number n
  | .take i => if D[i - 1]? = some (Str.ofString "ask") then .ask (cnt9 D i) else .take (cnt9 D i)
  | .ask i => .ask i
  | .mix a b => .mix (fi D a) (fi D b)
  | .opn a => .opn (fi D a)
def Vd (D : List Str) : FT → Prop
  | .number _ => True
  | .take i => 0 < i ∧ ∃ k, D[i - 1]? = some k ∧ k ≠ tl
  | .ask _ => False
  | .mix a b => Vd D a ∧ Vd D b
  | .opn a => Vd D a
theorem fi_inj {D : List Str} : ∀ {a b : FT}, Vd D a → Vd D b → fi D a = fi D b → a = b
  | .number n, b, _, hb, e => by
    cases b with
    | number m => exact e
    | take i => have e : FT.number n = if _ then _ else _ := e; split at e <;> cases e
    | ask i => cases e
    | mix _ _ => cases e
    | opn _ => cases e
  | .take i, b, ha, hb, e => by
    cases b with
    | number m => have e : (if _ then _ else _) = FT.number m := e; split at e <;> cases e
    | take j =>
      obtain ⟨i0, k, hk, nk⟩ := ha
      obtain ⟨j0, k', hk', nk'⟩ := hb
      have ec : cnt9 D i = cnt9 D j := by
        have e : (if D[i - 1]? = some (Str.ofString "ask") then FT.ask (cnt9 D i) else .take (cnt9 D i)) = if D[j - 1]? = some (Str.ofString "ask") then FT.ask (cnt9 D j) else .take (cnt9 D j) := e
        split at e <;> split at e <;> first | exact FT.ask.inj e | exact FT.take.inj e | cases e
      have s1 := cnt_succ hk
      have s2 := cnt_succ hk'
      rw [if_neg nk, show i - 1 + 1 = i by omega] at s1
      rw [if_neg nk', show j - 1 + 1 = j by omega] at s2
      congr 1
      rcases Nat.lt_trichotomy i j with q | q | q
      · have := cnt_mono (D := D) (show i ≤ j - 1 by omega); omega
      · exact q
      · have := cnt_mono (D := D) (show j ≤ i - 1 by omega); omega
    | ask i => exact hb.elim
    | mix _ _ => have e : (if _ then _ else _) = FT.mix _ _ := e; split at e <;> cases e
    | opn _ => have e : (if _ then _ else _) = FT.opn _ := e; split at e <;> cases e
  | .ask i, b, ha, _, _ => ha.elim
  | .mix a a', b, ha, hb, e => by
    cases b with
    | mix c c' =>
      have e1 := (FT.mix.inj e).1
      have e2 := (FT.mix.inj e).2
      rw [fi_inj ha.1 hb.1 e1, fi_inj ha.2 hb.2 e2]
    | take i => have e : FT.mix _ _ = if _ then _ else _ := e; split at e <;> cases e
    | number _ => cases e
    | ask _ => cases e
    | opn _ => cases e
  | .opn a, b, ha, hb, e => by
    cases b with
    | opn c => rw [fi_inj (a := a) (b := c) ha hb (FT.opn.inj e)]
    | take i => have e : FT.opn _ = if _ then _ else _ := e; split at e <;> cases e
    | number _ => cases e
    | ask _ => cases e
    | mix _ _ => cases e
def kds (X : List (Str × List PyData × List FT)) : List Str := X.map (·.1)
structure PT (D : List Str) (L : Tl) (t : Tt) : Prop where
  g : ∀ c, fi D (L.g c) = t.g c ∧ Vd D (L.g c)
  X : t.X = L.X.map fun x => (x.1, x.2.1, x.2.2.map (fi D))
  v : ∀ x ∈ L.X, ∀ a ∈ x.2.2, Vd D a
  wt : t.wt = cnt9 D L.X.length
theorem PT.step {D : List Str} {L : Tl} {t : Tt} (h : PT D L t) (W : Wo) (hD : kds (stepTl L W).X <+: D) : PT D (stepTl L W) (stepTt t W) := by
  have am : (askB W).map t.g = ((askB W).map L.g).map (fi D) := by
    rw [List.map_map]; exact List.map_congr_left fun c _ => (h.g c).1.symm
  have va : ∀ a ∈ (askB W).map L.g, Vd D a := fun a ha => by
    obtain ⟨c, _, rfl⟩ := List.mem_map.mp ha; exact (h.g c).2
  have gd : ∀ i, ((askB W).map t.g).getD i (.number 0) = fi D (((askB W).map L.g).getD i (.number 0)) := fun i => by rw [am]; exact getD_map (f := fi D) rfl
  have gv : ∀ i, Vd D (((askB W).map L.g).getD i (.number 0)) := fun i => by
    rw [List.getD_eq_getElem?_getD]
    cases e : ((askB W).map L.g)[i]? with
    | none => exact True.intro
    | some x => exact va x (List.mem_of_getElem? e)
  have at9 : isO W = true → D[L.X.length]? = some (kdW W) := fun q => by
    obtain ⟨r, hr⟩ := hD
    have hr : kds (if isO W = true then L.X ++ [(kdW W, restW W, (askB W).map L.g)] else L.X) ++ r = D := hr
    rw [if_pos q] at hr
    rw [← hr]
    unfold kds
    rw [List.map_append, List.append_assoc, List.getElem?_append_right (by rw [List.length_map]; exact Nat.le_refl _), List.length_map, Nat.sub_self]
    rfl
  have key : ∀ (oL oT : Option FT) (wt' : Nat), (∀ a, oL = some a → oT = some (fi D a) ∧ Vd D a) → (oL = none → oT = none) → wt' = cnt9 D (if isO W = true then L.X ++ [(kdW W, restW W, (askB W).map L.g)] else L.X).length → PT D ⟨setT L.g (boxW W) oL, if isO W = true then L.X ++ [(kdW W, restW W, (askB W).map L.g)] else L.X⟩ ⟨setT t.g (boxW W) oT, wt', if isO W = true then t.X ++ [(kdW W, restW W, (askB W).map t.g)] else t.X⟩ := by
    intro oL oT wt' h1 h2 h3
    refine ⟨fun c => ?_, ?_, fun x hx a ha => ?_, h3⟩
    · cases oL with
      | none => rw [h2 rfl]; exact h.g c
      | some a =>
        rw [(h1 a rfl).1]
        show fi D (if c = boxW W then a else L.g c) = (if c = boxW W then fi D a else t.g c) ∧ Vd D (if c = boxW W then a else L.g c)
        split
        · exact ⟨rfl, (h1 a rfl).2⟩
        · exact h.g c
    · show (if isO W = true then t.X ++ [(kdW W, restW W, (askB W).map t.g)] else t.X) = (if isO W = true then L.X ++ [(kdW W, restW W, (askB W).map L.g)] else L.X).map _
      by_cases q : isO W = true
      · rw [if_pos q, if_pos q, List.map_append, h.X, am]; rfl
      · rw [if_neg q, if_neg q, h.X]
    · by_cases q : isO W = true
      · have hx : x ∈ L.X ++ [(kdW W, restW W, (askB W).map L.g)] := by have := hx; simp only [if_pos q] at this; exact this
        rcases List.mem_append.mp hx with m | m
        · exact h.v x m a ha
        · rw [List.mem_singleton.mp m] at ha; exact va a ha
      · have hx : x ∈ L.X := by have := hx; simp only [if_neg q] at this; exact this
        exact h.v x hx a ha
  have same : isO W = false → t.wt = cnt9 D (if isO W = true then L.X ++ [(kdW W, restW W, (askB W).map L.g)] else L.X).length := fun q => by rw [if_neg (by rw [q]; exact Bool.false_ne_true)]; exact h.wt
  have len1 : isO W = true → (if isO W = true then L.X ++ [(kdW W, restW W, (askB W).map L.g)] else L.X).length = L.X.length + 1 := fun q => by rw [if_pos q, List.length_append]; rfl
  cases W with
  | wipe c => exact key (some _) (some _) _ (fun a e => by cases e; exact ⟨rfl, True.intro⟩) (fun z => by cases z) (same rfl)
  | number c v => exact key (some _) (some _) _ (fun a e => by cases e; exact ⟨rfl, True.intro⟩) (fun z => by cases z) (same rfl)
  | copy c d => exact key (some _) (some _) _ (fun a e => by cases e; exact ⟨by rw [gd], gv 0⟩) (fun z => by cases z) (same rfl)
  | mix c d f => exact key (some _) (some _) _ (fun a e => by cases e; exact ⟨by rw [gd, gd]; rfl, gv 0, gv 1⟩) (fun z => by cases z) (same rfl)
  | opn c d => exact key (some _) (some _) _ (fun a e => by cases e; exact ⟨by rw [gd]; rfl, gv 0⟩) (fun z => by cases z) (same rfl)
  | tell c =>
    refine key none none _ (fun a e => by cases e) (fun _ => rfl) ?_
    rw [len1 rfl, cnt_succ (at9 rfl), if_pos (show kdW (.tell c) = tl from rfl)]; exact h.wt
  | take c s =>
    have a := at9 rfl
    have nt : ¬ kdW (.take c s) = tl := (show ¬ Str.ofString "take" = Str.ofString "tell" by decide +kernel)
    have na : ¬ some (kdW (.take c s)) = some (Str.ofString "ask") := fun z => absurd (Option.some.inj z) (show ¬ Str.ofString "take" = Str.ofString "ask" by decide +kernel)
    have cs := cnt_succ a
    rw [if_neg nt] at cs
    refine key (some (.take (L.X.length + 1))) (some (.take (t.wt + 1))) (t.wt + 1) (fun x e => by
      cases e
      refine ⟨?_, Nat.succ_pos _, _, a, nt⟩
      show _ = some (if D[L.X.length + 1 - 1]? = some (Str.ofString "ask") then FT.ask (cnt9 D (L.X.length + 1)) else .take (cnt9 D (L.X.length + 1)))
      rw [show L.X.length + 1 - 1 = L.X.length from rfl, a, if_neg na, cs, h.wt]) (fun z => by cases z) ?_
    rw [len1 rfl, cs, h.wt]
  | ask c =>
    have a := at9 rfl
    have nt : ¬ kdW (.ask c) = tl := (show ¬ Str.ofString "ask" = Str.ofString "tell" by decide +kernel)
    have cs := cnt_succ a
    rw [if_neg nt] at cs
    refine key (some (.take (L.X.length + 1))) (some (.ask (t.wt + 1))) (t.wt + 1) (fun x e => by
      cases e
      refine ⟨?_, Nat.succ_pos _, _, a, nt⟩
      show _ = some (if D[L.X.length + 1 - 1]? = some (Str.ofString "ask") then FT.ask (cnt9 D (L.X.length + 1)) else .take (cnt9 D (L.X.length + 1)))
      rw [show L.X.length + 1 - 1 = L.X.length from rfl, a, if_pos (show some (kdW (Wo.ask c)) = some (Str.ofString "ask") from rfl), cs, h.wt]) (fun z => by cases z) ?_
    rw [len1 rfl, cs, h.wt]
theorem kds_pre (L : Tl) (W : Wo) : kds L.X <+: kds (stepTl L W).X := by
  unfold kds
  show L.X.map _ <+: (if isO W = true then L.X ++ [_] else L.X).map _
  split
  · rw [List.map_append]; exact List.prefix_append _ _
  · exact List.prefix_refl _
theorem pt_run (ws : List Wo) : ∀ D, kds (runTl tl0 ws).X <+: D → PT D (runTl tl0 ws) (runTt t0 ws) := by
  refine rev_ind (P := fun ws => ∀ D, kds (runTl tl0 ws).X <+: D → PT D (runTl tl0 ws) (runTt t0 ws)) (fun D _ => ⟨fun c => ⟨rfl, True.intro⟩, rfl, fun x hx => (by cases hx), rfl⟩) (fun l W ih D hD => ?_) ws
  rw [runTl_app, runTt_app]
  rw [runTl_app] at hD
  exact (ih D ((kds_pre _ _).trans hD)).step W hD
/-- alike on the law's trees is alike on the program's -/
theorem trees_iff (u v : List Wo) : (runTl tl0 u).X = (runTl tl0 v).X ↔ (runTt t0 u).X = (runTt t0 v).X := by
  have pu := pt_run u _ (List.prefix_refl _)
  have kt : ∀ w : List Wo, (runTt t0 w).X.map (·.1) = kds (runTl tl0 w).X := fun w => by
    rw [(pt_run w _ (List.prefix_refl _)).X, List.map_map]; rfl
  constructor
  · intro e
    have pv := pt_run v (kds (runTl tl0 u).X) (by rw [e]; exact List.prefix_refl _)
    rw [pu.X, pv.X, e]
  · intro e
    have ek : kds (runTl tl0 v).X = kds (runTl tl0 u).X := by rw [← kt, ← kt, e]
    have pv := pt_run v (kds (runTl tl0 u).X) (by rw [ek]; exact List.prefix_refl _)
    rw [pu.X, pv.X] at e
    refine map_inj (fun x hx y hy q => ?_) e
    obtain ⟨q1, q2⟩ := Prod.mk.inj q
    obtain ⟨q2, q3⟩ := Prod.mk.inj q2
    have := map_inj (fun a ha b hb z => fi_inj (pu.v x hx a ha) (pv.v y hy b hb) z) q3
    obtain ⟨x1, x2', x3⟩ := x
    obtain ⟨y1, y2', y3⟩ := y
    simp only at q1 q2 this
    rw [q1, q2, this]
/-! deeds as data -/
theorem restW_str (W : Wo) : ∀ d ∈ restW W, ∃ s, d = .str s := by
  cases W <;> simp [restW]
theorem ints_inj {as bs : List Nat} (h : (as.map fun n : Nat => PyData.int n) = bs.map fun n : Nat => PyData.int n) : as = bs :=
  map_inj (fun a _ b _ e => by have := PyData.int.inj e; omega) h
theorem rest_inj : ∀ {r r' : List PyData} {as bs : List Nat}, (∀ d ∈ r, ∃ s, d = PyData.str s) → (∀ d ∈ r', ∃ s, d = PyData.str s) → (r ++ as.map fun n : Nat => PyData.int n) = (r' ++ bs.map fun n : Nat => PyData.int n) → r = r' ∧ as = bs
  | [], [], as, bs, _, _, h => ⟨rfl, ints_inj h⟩
  | [], d :: r', as, bs, _, h2, h => by
    obtain ⟨s, rfl⟩ := h2 d List.mem_cons_self
    cases as with
    | nil => cases h
    | cons a r => cases (List.cons.inj h).1
  | d :: r, [], as, bs, h1, _, h => by
    obtain ⟨s, rfl⟩ := h1 d List.mem_cons_self
    cases bs with
    | nil => cases h
    | cons a r => cases (List.cons.inj h).1
  | d :: r, d' :: r', as, bs, h1, h2, h => by
    obtain ⟨e1, e2⟩ := List.cons.inj h
    obtain ⟨q1, q2⟩ := rest_inj (fun x hx => h1 x (List.mem_cons_of_mem _ hx)) (fun x hx => h2 x (List.mem_cons_of_mem _ hx)) e2
    exact ⟨by rw [e1, q1], q2⟩
def XsOk (X : List (Str × List PyData × List Nat)) : Prop := ∀ x ∈ X, ∀ d ∈ x.2.1, ∃ s, d = PyData.str s
theorem runB_ok : ∀ {ws : List Wo} {b : Bs}, XsOk b.X → XsOk (runB b ws).X
  | [], _, h => h
  | W :: r, b, h => by
    refine runB_ok (ws := r) (b := stepB b W) ?_
    show XsOk (if isO W = true then b.X ++ [_] else b.X)
    split
    · intro x hx
      rcases List.mem_append.mp hx with m | m
      · exact h x m
      · rw [List.mem_singleton.mp m]; exact restW_str W
    · exact h
theorem deeds_inj {X Y : List (Str × List PyData × List Nat)} (hx : XsOk X) (hy : XsOk Y) (h : X.map deedP = Y.map deedP) : X = Y := by
  refine map_inj (fun x mx y my e => ?_) h
  obtain ⟨e1, e2⟩ := List.cons.inj (PyData.tuple.inj e)
  obtain ⟨q1, q2⟩ := rest_inj (hx x mx) (hy y my) e2
  obtain ⟨x1, x2', x3⟩ := x
  obtain ⟨y1, y2', y3⟩ := y
  simp only at e1 q1 q2
  rw [PyData.str.inj e1, q1, q2]
theorem deed_nb {X : List (Str × List PyData × List Nat)} (hx : XsOk X) : ∀ d ∈ X.map deedP, NB d := fun d hd => by
  obtain ⟨x, mx, rfl⟩ := List.mem_map.mp hd
  refine .tup fun e he => ?_
  rcases List.mem_cons.mp he with rfl | he
  · exact .str _
  · rcases List.mem_append.mp he with m | m
    · obtain ⟨s, rfl⟩ := hx x mx e m; exact .str _
    · obtain ⟨n, _, rfl⟩ := List.mem_map.mp m; exact .int _
/-! the law's judgement -/
def l1 (ws : List Wo) : Ld := runL (lform [] (kyN "number" 0)).2 ⟨(lform [] (kyN "number" 0)).1, [], []⟩ ws
def l2 (ws us : List Wo) : Ld := runL (lform (l1 ws).ks (kyN "number" 0)).2 ⟨(lform (l1 ws).ks (kyN "number" 0)).1, [], []⟩ us
def lholds (ws us : List Wo) : Bool := PyData.eqv (.list (l2 ws us).ds) (.list (l1 ws).ds) && (leftL (l2 ws us).hv).isEmpty
theorem rb1 (ws : List Wo) : RB (l1 ws) (runB (bM [.number 0]) ws) := RB.run ⟨rfl, fun _ => rfl, rfl⟩
theorem trb1 (ws : List Wo) : TrB (runB (bM [.number 0]) ws) (runTl tl0 ws) := (TrB.run (trB_bM (M := [.number 0]) a0_ok.w (by simp))).1
theorem lform0 {M : List Fo} (w : WF M) : lform (M.map kF) (kyN "number" 0) = (M.map kF, 0) := by
  have := lform_map (ms := M) (m := .number 0)
  rw [show kF (.number 0) = kyN "number" 0 from rfl] at this
  rw [this]
  obtain ⟨⟨r, e⟩, _⟩ := w
  rw [e]
  unfold made ixG
  rw [if_pos rfl]
theorem rb2 (ws us : List Wo) : RB (l2 ws us) (runB (bM (runB (bM [.number 0]) ws).ms) us) := by
  have e := lform0 (trb1 ws).w
  rw [← (rb1 ws).k] at e
  unfold l2
  rw [e]
  exact RB.run ⟨(rb1 ws).k, fun _ => rfl, rfl⟩
/-- the deeds are alike just where the trees are -/
theorem deeds_iff (ws us : List Wo) : PyData.eqv (.list (l2 ws us).ds) (.list (l1 ws).ds) = true ↔ (runTt t0 us).X = (runTt t0 ws).X := by
  have A := trb1 ws
  obtain ⟨R, pre⟩ := TrB.run (ws := us) (trB_bM A.w A.nd)
  have o1 : XsOk (runB (bM [.number 0]) ws).X := runB_ok fun x hx => by cases hx
  have o2 : XsOk (runB (bM (runB (bM [.number 0]) ws).ms) us).X := runB_ok fun x hx => by cases hx
  rw [(rb2 ws us).d, (rb1 ws).d, nb_list (deed_nb o2) (deed_nb o1), ← trees_iff, R.X, A.X]
  have ll := pre.length_le
  have pre : (runB (bM [.number 0]) ws).ms <+: (runB (bM (runB (bM [.number 0]) ws).ms) us).ms := pre
  generalize runB (bM (runB (bM [.number 0]) ws).ms) us = b2 at *
  generalize runB (bM [.number 0]) ws = b1 at *
  have e : b1.X.map (fun x => (x.1, x.2.1, x.2.2.map (tr b1.ms))) = b1.X.map (fun x => (x.1, x.2.1, x.2.2.map (tr b2.ms))) := List.map_congr_left fun x hx => by
    rw [List.map_congr_left (f := tr b1.ms) (g := tr b2.ms) fun n hn => (tr_pre pre (A.x x hx n hn)).symm]
  rw [e]
  constructor
  · intro h; rw [deeds_inj o2 o1 h]
  · intro h
    rw [map_inj (f := fun x : Str × List PyData × List Nat => (x.1, x.2.1, x.2.2.map (tr b2.ms))) (fun x hx y hy q => ?_) h]
    obtain ⟨q1, q2⟩ := Prod.mk.inj q
    obtain ⟨q2, q3⟩ := Prod.mk.inj q2
    have := map_inj (fun m hm n hn z => tr_inj R.w R.nd (R.x x hx m hm) (Nat.lt_of_lt_of_le (A.x y hy n hn) ll) z) q3
    obtain ⟨x1, x2', x3⟩ := x
    obtain ⟨y1, y2', y3⟩ := y
    simp only at q1 q2 this
    rw [q1, q2, this]
/-! the program's judgement -/
def XaOk (X : List PyData) : Prop := ∀ d ∈ X, NB d
theorem runA_nb : ∀ {ws : List Wo} {a : As}, XaOk a.X → XaOk (runA a ws).X
  | [], _, h => h
  | W :: r, a, h => by
    refine runA_nb (ws := r) (a := stepA a W) ?_
    show XaOk (if isO W = true then a.X ++ [outP (W, (askB W).map a.g, _)] else a.X)
    split
    · intro d hd
      rcases List.mem_append.mp hd with m | m
      · exact h d m
      · rw [List.mem_singleton.mp m]
        refine .tup fun e he => ?_
        simp only [List.mem_cons, List.not_mem_nil, or_false] at he
        rcases he with rfl | rfl | rfl
        · exact .str _
        · exact .tup fun x hx => by obtain ⟨s, rfl⟩ := restW_str W x hx; exact .str _
        · exact .tup fun x hx => by obtain ⟨n, _, rfl⟩ := List.mem_map.mp hx; exact .int _
    · exact h
theorem prog_iff (os ws : List Wo) : (runA (aM (runA a0 os).ms) ws).X = (runA a0 os).X ↔ (runTt t0 os).X = (runTt t0 ws).X := by
  constructor
  · intro h
    have A := trS_a0.run (ws := os)
    have R := (trS_aM A.ok.w A.nd).run (ws := ws)
    obtain ⟨xs, x1, x2, x3⟩ := A.X
    obtain ⟨ys, y1, y2, y3⟩ := R.X
    have pre : (runA a0 os).ms <+: (runA (aM (runA a0 os).ms) ws).ms := pre_run (a := aM (runA a0 os).ms) ⟨A.ok.w, fun _ => A.ok.p⟩ ws
    rw [x1, y1] at h
    have e : ys = xs := map_inj (fun x _ y _ q => by
      obtain ⟨q1, q2⟩ := List.cons.inj (PyData.tuple.inj q)
      obtain ⟨q2, q3⟩ := List.cons.inj q2
      obtain ⟨q3, _⟩ := List.cons.inj q3
      have z1 := PyData.str.inj q1
      have z2 := PyData.tuple.inj q2
      have z3 := ints_inj (PyData.tuple.inj q3)
      obtain ⟨x1, x2', x3⟩ := x
      obtain ⟨y1, y2', y3⟩ := y
      simp only at z1 z2 z3
      rw [z1, z2, z3]) h
    rw [x3, y3, e]
    exact List.map_congr_left fun x hx => by rw [List.map_congr_left (f := tr (runA a0 os).ms) (g := tr (runA (aM (runA a0 os).ms) ws).ms) fun n hn => (tr_pre pre (x2 x hx n hn)).symm]
  · exact X_alike
end K48

set_option maxHeartbeats 4000000
namespace K48
open PySem PySem.Spec PyProof.Rows L2 Kk
/-! the law's judgement is the program's -/
theorem left_nil9 {n0 : Nat} {ks : List (List L2.Key)} {ws : List Wo} : leftL (runL n0 ⟨ks, [], []⟩ ws).hv = [] ↔ NoK ws := by
  have e := hk_run (n0 := n0) (ws := ws) (l := ⟨ks, [], []⟩)
  constructor
  · intro h b
    cases z : runK (fun _ => false) ws b with
    | false => rfl
    | true =>
      have e2 : (hg n0 (runL n0 ⟨ks, [], []⟩ ws).hv b).2 = true := (congrFun e b).trans z
      have := left_in e2
      rw [h] at this; cases this
  · intro h
    have nd := runL_nd (n0 := n0) (ws := ws) (l := ⟨ks, [], []⟩) List.nodup_nil
    unfold leftL
    rw [List.map_eq_nil_iff, List.filter_eq_nil_iff]
    intro x hx y
    have e1 := lkB_nd nd hx
    have e2 : (hg n0 (runL n0 ⟨ks, [], []⟩ ws).hv x.1).2 = true := by unfold hg; rw [e1]; exact y
    have e3 := (congrFun e x.1).symm.trans e2
    have e4 : runK (fun _ => false) ws x.1 = true := e3
    rw [h x.1] at e4; cases e4
theorem any_nok9 {ws : List Wo} : anyK (runT ⟨[.number 0], [], 0, []⟩ ws).ms (runT ⟨[.number 0], [], 0, []⟩ ws).dv = false ↔ NoK ws := by
  have e : absT (runT ⟨[.number 0], [], 0, []⟩ ws) = runA a0 ws := abs_run _ _
  have nd : ((runT ⟨[.number 0], [], 0, []⟩ ws).dv.map (·.1)).Nodup := keys_nd (t := ⟨[.number 0], [], 0, []⟩) List.nodup_nil
  have ra : kA (runA a0 ws) = runK (fun _ => false) ws := by rw [kA_run a0_ok]; rfl
  constructor
  · intro h b
    rw [← ra, ← e]
    show kk (runT ⟨[.number 0], [], 0, []⟩ ws).ms (gt (runT ⟨[.number 0], [], 0, []⟩ ws).dv b) = false
    unfold gt
    cases z : gtO (runT ⟨[.number 0], [], 0, []⟩ ws).dv b with
    | none =>
      have w := (a0_ok.run ws).w
      rw [← e] at w
      exact kk_zero w
    | some n =>
      unfold anyK at h
      rw [List.any_eq_false] at h
      have := h _ (gtO_mem z)
      show kk (runT ⟨[.number 0], [], 0, []⟩ ws).ms n = false
      cases y : kk (runT ⟨[.number 0], [], 0, []⟩ ws).ms n with
      | false => rfl
      | true => exact absurd y this
  · intro h
    unfold anyK
    rw [List.any_eq_false]
    intro x hx
    have hv : gt (runT ⟨[.number 0], [], 0, []⟩ ws).dv x.1 = x.2 := by unfold gt; rw [gtO_nd nd hx]; rfl
    have hk : kA (absT (runT ⟨[.number 0], [], 0, []⟩ ws)) x.1 = false := by rw [e, ra]; exact h x.1
    have hk : kk (runT ⟨[.number 0], [], 0, []⟩ ws).ms (gt (runT ⟨[.number 0], [], 0, []⟩ ws).dv x.1) = false := hk
    rw [hv] at hk
    show ¬ kk (runT ⟨[.number 0], [], 0, []⟩ ws).ms x.2 = true
    rw [hk]; exact Bool.false_ne_true
theorem lholds_eq (ws : List Wo) (os : List Or) : lholds ws (os.map asW) = holdsB ws os := by
  have e := mach_abs os
  have f := beside_abs os ws
  have x1 : (outs (mach os).ps).map outP = (runA a0 (os.map asW)).X := congrArg As.X e
  have x2 : (outs (beside os ws).ps).map outP = (runA (aM (runA a0 (os.map asW)).ms) ws).X := congrArg As.X f
  unfold lholds holdsB
  have n1 : ∀ us, XaOk (runA a0 us).X := fun us => runA_nb fun d hd => by cases hd
  have n2 : ∀ M us, XaOk (runA (aM M) us).X := fun M us => runA_nb fun d hd => by cases hd
  rw [Bool.eq_iff_iff, Bool.and_eq_true_iff, Bool.and_eq_true_iff, deeds_iff, x1, x2, nb_list (n1 _) (n2 _ _), ← prog_iff, List.isEmpty_iff]
  have k : leftL (l2 ws (os.map asW)).hv = [] ↔ (!anyK (mach os).ms (mach os).dv) = true := by
    unfold l2
    rw [left_nil9, Bool.not_eq_true']
    exact any_nok9.symm
  rw [k]
  exact ⟨fun ⟨a, b⟩ => ⟨b, a.symm⟩, fun ⟨a, b⟩ => ⟨b.symm, a⟩⟩
end K48

namespace Kk
open PySem PySem.Spec PyProof.Rows L2
/-! the same data are equal -/
theorem yes_all (n : Nat) : (List.range n).all (fun _ => true) = true := by simp
theorem depth_get : ∀ {ds : List PyData} {i : Nat} {d : PyData}, ds[i]? = some d → d.depth ≤ PyData.depthAll ds
  | [], i, d, h => by simp at h
  | x :: xs, 0, d, h => by
    cases h
    show PyData.depth _ ≤ max (PyData.depth _) _
    omega
  | x :: xs, i + 1, d, h => by
    have := depth_get (ds := xs) (i := i) (by simpa using h)
    show d.depth ≤ max x.depth (PyData.depthAll xs)
    omega
theorem vals_at {xs : List V} {its : List Value} (r : Vals xs its) {j : Nat} (h : j < its.length) : ∃ x, xs[j]? = some x ∧ RelV x its[j] := by
  have hj : j < xs.length := by rw [r.length]; exact h
  obtain ⟨u, hu, ru⟩ := r.get (List.getElem?_eq_getElem hj)
  refine ⟨_, List.getElem?_eq_getElem hj, ?_⟩
  have := (List.getElem?_eq_some_iff.mp hu).2
  rw [this]; exact ru
section
variable {X : Cx} {pins : List (Addr × Obj)} {σ : L2.St} {H : Hp} {s : Shared}
theorem same_at (I : Inv X pins σ H s) : ∀ (n : Nat) (d : PyData) (A : Around) (x y : V) (v u : Value), d.depth ≤ n → A.units + n < cLine → Tp X.K H x d → Tp X.K H y d → RelV x v → RelV y u → SeqAt.EqAt A s v u true := by
  intro n
  induction n with
  | zero =>
    intro d A x y v u hd hu hx hy rx ry
    cases hx with
    | non => cases hy; cases rx; cases ry; exact SeqAt.EqAt.same _
    | bl b => cases hy; cases rx; cases ry; exact SeqAt.EqAt.same _
    | int i =>
      cases hy
      obtain ⟨t, rfl⟩ := rx
      obtain ⟨t', rfl⟩ := ry
      have := SeqAt.EqAt.int_int (A := A) (s := s) i t i t'
      rwa [beq_self_eq_true] at this
    | str z =>
      cases hy
      obtain ⟨t, rfl⟩ := rx
      obtain ⟨t', rfl⟩ := ry
      have := SeqAt.EqAt.str_str (A := A) (s := s) z t z t'
      rwa [beq_self_eq_true] at this
    | tup => exact absurd hd (by show ¬ (PyData.depthAll _ + 1 ≤ 0); omega)
  | succ n ih =>
    intro d A x y v u hd hu hx hy rx ry
    cases hx with
    | non => cases hy; cases rx; cases ry; exact SeqAt.EqAt.same _
    | bl b => cases hy; cases rx; cases ry; exact SeqAt.EqAt.same _
    | int i =>
      cases hy
      obtain ⟨t, rfl⟩ := rx
      obtain ⟨t', rfl⟩ := ry
      have := SeqAt.EqAt.int_int (A := A) (s := s) i t i t'
      rwa [beq_self_eq_true] at this
    | str z =>
      cases hy
      obtain ⟨t, rfl⟩ := rx
      obtain ⟨t', rfl⟩ := ry
      have := SeqAt.EqAt.str_str (A := A) (s := s) z t z t'
      rwa [beq_self_eq_true] at this
    | @tup a xs ds hs ha =>
      cases hy with
      | @tup b ys _ hs2 hb =>
        cases (show v = Value.ref a from rx)
        cases (show u = Value.ref b from ry)
        by_cases hab : a = b
        · rw [hab]; exact SeqAt.EqAt.same _
        · obtain ⟨its, r, pt, hz⟩ := I.tuple hs
          obtain ⟨its2, r2, pt2, hz2⟩ := I.tuple hs2
          have l1 : its.length = ds.length := by rw [← r.length, ha.len]
          have l2 : its2.length = ds.length := by rw [← r2.length, hb.len]
          have hd' : PyData.depthAll ds ≤ n := by
            have : PyData.depthAll ds + 1 ≤ n + 1 := hd
            omega
          have h1 := SeqAt.RcAt.tuples (A := A) (s := s) (e := fun _ => true) pt pt2 (by omega) (fun j h1 h2 => by
            have j1 : j < its.length := by simpa using h1
            have j2 : j < its2.length := by simpa using h2
            obtain ⟨x', ex, rx'⟩ := vals_at r j1
            obtain ⟨y', ey, ry'⟩ := vals_at r2 j2
            obtain ⟨dj, ed, tx⟩ := ha.get ex
            obtain ⟨dj2, ed2, ty⟩ := hb.get ey
            rw [ed] at ed2; cases ed2
            have := ih dj A.in1 x' y' _ _ (Nat.le_trans (depth_get ed) hd') (show A.units + 1 + n < cLine by omega) tx ty rx' ry'
            simpa using this)
          rw [yes_all] at h1
          have e : (its.toArray.size == its2.toArray.size) = true := by simp [l1, l2]
          rw [e] at h1
          exact SeqAt.EqAt.of_refs hab h1
end
section
variable {X : Cx} {K : PySem.W.Frag}
def rSameNe (K : PySem.W.Frag) : V → V → Hp → VK → Prop := fun x y H Q => ∃ d, Tp K H x d ∧ Tp K H y d ∧ d.depth ≤ 64 ∧ Q (.bl false) H
def rSameEq (K : PySem.W.Frag) : V → V → Hp → VK → Prop := fun x y H Q => ∃ d, Tp K H x d ∧ Tp K H y d ∧ d.depth ≤ 64 ∧ Q (.bl true) H
theorem op_neSame (h : X.K = K) (hu : X.A.units + 64 < cLine) : OpR X (compareOp .NotEq) (rSameNe K) := by
  subst h
  intro pins s σ H x y v u Q I rx ry h
  obtain ⟨d, hx, hy, hd, q⟩ := h
  have I0 := I
  cases hx with
  | non =>
    cases hy; cases rx; cases ry
    exact SeqAt.RcNeAt.none_none X.prog X.w X.xe _ ⟨.bl false, H, I, rfl, q⟩
  | bl b =>
    cases hy; cases rx; cases ry
    refine SeqAt.RcNeAt.bool_bool b b X.prog X.w X.xe _ ⟨.bl false, H, I, ?_, q⟩
    rw [beq_self_eq_true]; rfl
  | int i =>
    cases hy
    obtain ⟨t, rfl⟩ := rx
    obtain ⟨t', rfl⟩ := ry
    refine SeqAt.RcNeAt.int_int i t i t' X.prog X.w X.xe _ ⟨.bl false, H, I, ?_, q⟩
    rw [beq_self_eq_true]; rfl
  | str z =>
    cases hy
    obtain ⟨t, rfl⟩ := rx
    obtain ⟨t', rfl⟩ := ry
    refine SeqAt.RcNeAt.str_str z t z t' X.prog X.w X.xe _ ⟨.bl false, H, I, ?_, q⟩
    rw [beq_self_eq_true]; rfl
  | @tup a xs ds hs ha =>
    cases hy with
    | @tup b ys _ hs2 hb =>
      cases (show v = Value.ref a from rx)
      cases (show u = Value.ref b from ry)
      obtain ⟨its, r, pt, hz⟩ := I.tuple hs
      obtain ⟨its2, r2, pt2, hz2⟩ := I.tuple hs2
      have l1 : its.length = ds.length := by rw [← r.length, ha.len]
      have l2 : its2.length = ds.length := by rw [← r2.length, hb.len]
      have hd' : PyData.depthAll ds ≤ 63 := by
        have : PyData.depthAll ds + 1 ≤ 64 := hd
        omega
      refine SeqAt.RcNeAt.tuples (e := fun _ => true) pt pt2 (by omega) (fun j h1 h2 => ?_) X.prog X.w X.xe _ ⟨.bl false, H, I, ?_, q⟩
      · have j1 : j < its.length := by simpa using h1
        have j2 : j < its2.length := by simpa using h2
        obtain ⟨x', ex, rx'⟩ := vals_at r j1
        obtain ⟨y', ey, ry'⟩ := vals_at r2 j2
        obtain ⟨dj, ed, tx⟩ := ha.get ex
        obtain ⟨dj2, ed2, ty⟩ := hb.get ey
        rw [ed] at ed2; cases ed2
        have := same_at I0 63 dj X.A.in1 x' y' _ _ (Nat.le_trans (depth_get ed) hd') (show X.A.units + 1 + 63 < cLine by omega) tx ty rx' ry'
        simpa using this
      · rw [yes_all]
        have e : (its.toArray.size == its2.toArray.size) = true := by simp [l1, l2]
        rw [e]; rfl
theorem op_eqSame (h : X.K = K) (hu : X.A.units + 64 < cLine) : OpR X (compareOp .Eq) (fun x y H Q => ∃ a b ds xs ys, x = .ref a ∧ y = .ref b ∧ SqT K H a xs ∧ SqT K H b ys ∧ TpAll K H xs ds ∧ TpAll K H ys ds ∧ PyData.depthAll ds ≤ 63 ∧ Q (.bl true) H) := by
  subst h
  intro pins s σ H x y v u Q I rx ry h
  obtain ⟨a, b, ds, xs, ys, rfl, rfl, hs, hs2, ha, hb, hd', q⟩ := h
  cases (show v = Value.ref a from rx)
  cases (show u = Value.ref b from ry)
  obtain ⟨its, r, pt, hz⟩ := I.tuple hs
  obtain ⟨its2, r2, pt2, hz2⟩ := I.tuple hs2
  have l1 : its.length = ds.length := by rw [← r.length, ha.len]
  have l2 : its2.length = ds.length := by rw [← r2.length, hb.len]
  refine SeqAt.eq_tupleAt (e := fun _ => true) pt pt2 (by omega) (fun j h1 h2 => ?_) ⟨.bl true, H, I, ?_, q⟩
  · have j1 : j < its.length := by simpa using h1
    have j2 : j < its2.length := by simpa using h2
    obtain ⟨x', ex, rx'⟩ := vals_at r j1
    obtain ⟨y', ey, ry'⟩ := vals_at r2 j2
    obtain ⟨dj, ed, tx⟩ := ha.get ex
    obtain ⟨dj2, ed2, ty⟩ := hb.get ey
    rw [ed] at ed2; cases ed2
    have := same_at I 63 dj X.A.in1 x' y' _ _ (Nat.le_trans (depth_get ed) hd') (show X.A.units + 1 + 63 < cLine by omega) tx ty rx' ry'
    simpa using this
  · rw [yes_all]
    have e : (its.toArray.size == its2.toArray.size) = true := by simp [l1, l2]
    rw [e]; rfl
/-- a tuple held against () -/
theorem op_neNilT (h : X.K = K) (hu : X.A.units + 64 < cLine) : OpR X (compareOp .NotEq) (fun x y H Q => ∃ a b xs, x = .ref a ∧ y = .ref b ∧ SqT K H a xs ∧ SqT K H b [] ∧ Q (.bl (!xs.isEmpty)) H) := by
  subst h
  intro pins s σ H x y v u Q I rx ry h
  obtain ⟨a, b, xs, rfl, rfl, ha, hb, q⟩ := h
  cases (show v = Value.ref a from rx)
  cases (show u = Value.ref b from ry)
  obtain ⟨its, r, pt, hz⟩ := I.tuple ha
  obtain ⟨its2, r2, pt2, hz2⟩ := I.tuple hb
  cases r2
  refine SeqAt.RcNeAt.tuples (e := fun _ => true) pt pt2 (by omega) (fun j h1 h2 => absurd h2 (Nat.not_lt_zero j)) X.prog X.w X.xe _ ⟨.bl (!xs.isEmpty), H, I, ?_, q⟩
  rw [yes_all]
  cases r with
  | nil => rfl
  | cons _ _ => simp; rfl
end
end Kk

set_option maxHeartbeats 8000000
set_option pp.maxSteps 400
set_option pp.deepTerms false
namespace K48
open PySem PySem.Spec PyProof.Rows L2 Kk RZ
abbrev s_as_word : Stmt := topS 45
abbrev n_as_word : List Str := ["_law_order", "_law_hand"]
theorem sc_as_word : FnScope n_as_word ["_law_order"] (defScope s_as_word) := ⟨rfl, rfl, rfl, by decide +kernel, rfl, by decide +kernel, by decide +kernel⟩
abbrev s_holds : Stmt := topS 46
abbrev n_holds : List Str := ["_law_row_here", "_law_code", "_law_known", "_law_due", "_law_order"]
theorem sc_holds : FnScope n_holds ["_law_row_here", "_law_code"] (defScope s_holds) := ⟨rfl, rfl, rfl, by decide +kernel, rfl, by decide +kernel, by decide +kernel⟩
section
variable {P : Program} {w : World} {K : PySem.W.Frag} {mg : Str → Option Value} {base : Heap}
/-- the hands of an order, as boxes -/
def spAsW (K : PySem.W.Frag) : Sp := fun vs H Q _ => ∃ (v : V) (o : Or), vs = [v] ∧ OrH K H v o ∧ ∀ H' p, Ex [] H H' → WoH K H' (.ref p) (asW o) → Q (.ref p) H'
theorem ok_asw {f : Addr} {fd : FuncData} {k : Nat} (F : Fun K "_law_as_word" "_law_as_word" s_as_word f fd) (m_tuple : mg "tuple" = none) : FnOk P w K mg base CX0 (k + 1) f fd ["_law_order"] (spAsW K) := by
  refine F.ok sc_as_word (fun vs H Q E h => ?_) (fun cdv A outer s H vs Q E hr h => ?_)
  · obtain ⟨v, o, rfl, _⟩ := h; rfl
  · obtain ⟨v, o, rfl, ho, q⟩ := h
    refine ⟨_, (pss_cons (ps_if (pt_cmpR op_eq (pe_ix ix_tup (pv 0) pe_int (fun _ _ => rfl)) pe_str (nomark _)) (pss_one (ps_ret (pe_tup (pa_cons pe_str (pa_cons (pe_tup (pa_cons pe_str (pa_cons (pe_ix ix_tup (pv 0) pe_int (fun _ _ => rfl)) pa_nil))) (pa_cons (pe_tup (pa_cons pe_str (pa_cons (pe_ix ix_tup (pv 0) pe_int (fun _ _ => rfl)) pa_nil))) pa_nil)))))) pss_nil)
      (pss_cons (ps_if (pt_cmpR op_eq (pe_ix ix_tup (pv 0) pe_int (fun _ _ => rfl)) pe_str (nomark _)) (pss_one (ps_ret (pe_tup (pa_cons pe_str (pa_cons (pe_tup (pa_cons pe_str (pa_cons (pe_ix ix_tup (pv 0) pe_int (fun _ _ => rfl)) pa_nil))) (pa_cons (pe_tup (pa_cons pe_str (pa_cons (pe_ix ix_tup (pv 0) pe_int (fun _ _ => rfl)) pa_nil))) pa_nil)))))) pss_nil)
      (pss_cons (ps_if (pt_cmpR op_eq (pe_ix ix_tup (pv 0) pe_int (fun _ _ => rfl)) pe_str (nomark _)) (pss_one (ps_ret (pe_tup (pa_cons pe_str (pa_cons (pe_tup (pa_cons pe_str (pa_cons (pe_ix ix_tup (pv 0) pe_int (fun _ _ => rfl)) pa_nil))) pa_nil))))) pss_nil)
      (pss_cons (ps_if (pt_cmpR op_in_seq (pe_ix ix_tup (pv 0) pe_int (fun _ _ => rfl)) (pe_tup (pa_cons pe_str (pa_cons pe_str pa_nil))) rfl) (pss_one (ps_ret (pe_tup (pa_cons (pe_ix ix_tup (pv 0) pe_int (fun _ _ => rfl)) (pa_cons (pe_tup (pa_cons pe_str (pa_cons (pe_ix ix_tup (pv 0) pe_int (fun _ _ => rfl)) pa_nil))) (pa_cons (pe_ix ix_tup (pv 0) pe_int (fun _ _ => rfl)) pa_nil)))))) pss_nil)
      (pss_one (ps_ret (pe_op (op_catG (K := K) rfl) (pe_slice (sl_tupG (K := K) rfl) (pv 0) po_none (po_some pe_int)) (pe_callTy call_tuple_of (by rfl) m_tuple (by decide +kernel) (pa_cons (pe_lc (own := [("_law_hand", 1)]) (g := gName 1) (tt := tYes) rfl sc_as_word.nd (pi_tup (pe_slice (sl_tupG (K := K) rfl) (pv 0) (po_some pe_int) po_none)) (blkOk_by (N := n_as_word) (sc := defScope s_as_word) (by decide +kernel)) (fun _ _ _ _ _ => pg_name (i := 1) sc_as_word.nd rfl (Or.inl rfl)) (fun _ _ _ _ _ => pts_nil) (fun _ _ _ _ _ => (pe_tup (pa_cons pe_str (pa_cons (pv 1) pa_nil))))) pa_nil))))))))), ?_⟩
    obtain ⟨a, rfl, hs⟩ := or_inv ho
    cases o with
    | lay s h =>
      refine ⟨.ref a, rfl, a, _, 0, _, rfl, rfl, hs, atI_nat (j := 0) rfl, rfl, _, rfl, sY ?_⟩
      refine ⟨.ref a, rfl, a, _, 1, _, rfl, rfl, hs, atI_nat (j := 1) rfl, (by show 2 ≤ sizeLine; decide), fun t1 nt1 => ?_⟩
      obtain ⟨y1, h1⟩ := nw46 (o := .tup [V.str (Str.ofString "slot"), .int (s : Nat)]) nt1
      refine ⟨.ref a, rfl, a, _, 2, _, rfl, rfl, (y1.seqT hs), atI_nat (j := 2) rfl, (by show 2 ≤ sizeLine; decide), fun t2 nt2 => ?_⟩
      obtain ⟨y2, h2⟩ := nw46 (o := .tup [V.str (Str.ofString "hand"), .int (h : Nat)]) nt2
      refine ⟨(by show 3 ≤ sizeLine; decide), fun t3 nt3 => ?_⟩
      obtain ⟨y3, h3⟩ := nw46 (o := .tup [V.str (Str.ofString "copy"), .ref t1, .ref t2]) nt3
      exact q _ t3 ((y1.trans y2).trans y3) ⟨t3, _, rfl, .of h3, _, _, rfl, ⟨t1, rfl, (y2.trans y3).tup h1⟩, ⟨t2, rfl, y3.tup h2⟩⟩
    | fetch h s =>
      refine ⟨.ref a, rfl, a, _, 0, _, rfl, rfl, hs, atI_nat (j := 0) rfl, rfl, _, rfl, sN (show ¬ Str.ofString "fetch" = Str.ofString "lay" by decide +kernel) ?_⟩
      refine ⟨.ref a, rfl, a, _, 0, _, rfl, rfl, hs, atI_nat (j := 0) rfl, rfl, _, rfl, sY ?_⟩
      refine ⟨.ref a, rfl, a, _, 1, _, rfl, rfl, hs, atI_nat (j := 1) rfl, (by show 2 ≤ sizeLine; decide), fun t1 nt1 => ?_⟩
      obtain ⟨y1, h1⟩ := nw46 (o := .tup [V.str (Str.ofString "hand"), .int (h : Nat)]) nt1
      refine ⟨.ref a, rfl, a, _, 2, _, rfl, rfl, (y1.seqT hs), atI_nat (j := 2) rfl, (by show 2 ≤ sizeLine; decide), fun t2 nt2 => ?_⟩
      obtain ⟨y2, h2⟩ := nw46 (o := .tup [V.str (Str.ofString "slot"), .int (s : Nat)]) nt2
      refine ⟨(by show 3 ≤ sizeLine; decide), fun t3 nt3 => ?_⟩
      obtain ⟨y3, h3⟩ := nw46 (o := .tup [V.str (Str.ofString "copy"), .ref t1, .ref t2]) nt3
      exact q _ t3 ((y1.trans y2).trans y3) ⟨t3, _, rfl, .of h3, _, _, rfl, ⟨t1, rfl, (y2.trans y3).tup h1⟩, ⟨t2, rfl, y3.tup h2⟩⟩
    | clean s =>
      refine ⟨.ref a, rfl, a, _, 0, _, rfl, rfl, hs, atI_nat (j := 0) rfl, rfl, _, rfl, sN (show ¬ Str.ofString "clean" = Str.ofString "lay" by decide +kernel) ?_⟩
      refine ⟨.ref a, rfl, a, _, 0, _, rfl, rfl, hs, atI_nat (j := 0) rfl, rfl, _, rfl, sN (show ¬ Str.ofString "clean" = Str.ofString "fetch" by decide +kernel) ?_⟩
      refine ⟨.ref a, rfl, a, _, 0, _, rfl, rfl, hs, atI_nat (j := 0) rfl, rfl, _, rfl, sY ?_⟩
      refine ⟨.ref a, rfl, a, _, 1, _, rfl, rfl, hs, atI_nat (j := 1) rfl, (by show 2 ≤ sizeLine; decide), fun t1 nt1 => ?_⟩
      obtain ⟨y1, h1⟩ := nw46 (o := .tup [V.str (Str.ofString "slot"), .int (s : Nat)]) nt1
      refine ⟨(by show 2 ≤ sizeLine; decide), fun t3 nt3 => ?_⟩
      obtain ⟨y3, h3⟩ := nw46 (o := .tup [V.str (Str.ofString "wipe"), .ref t1]) nt3
      exact q _ t3 (y1.trans y3) ⟨t3, _, rfl, .of h3, _, rfl, ⟨t1, rfl, y3.tup h1⟩⟩
    | take h s =>
      refine ⟨.ref a, rfl, a, _, 0, _, rfl, rfl, hs, atI_nat (j := 0) rfl, rfl, _, rfl, sN (show ¬ Str.ofString "take" = Str.ofString "lay" by decide +kernel) ?_⟩
      refine ⟨.ref a, rfl, a, _, 0, _, rfl, rfl, hs, atI_nat (j := 0) rfl, rfl, _, rfl, sN (show ¬ Str.ofString "take" = Str.ofString "fetch" by decide +kernel) ?_⟩
      refine ⟨.ref a, rfl, a, _, 0, _, rfl, rfl, hs, atI_nat (j := 0) rfl, rfl, _, rfl, sN (show ¬ Str.ofString "take" = Str.ofString "clean" by decide +kernel) ?_⟩
      refine ⟨.ref a, rfl, a, _, 0, _, rfl, rfl, hs, atI_nat (j := 0) rfl, (by show 2 ≤ sizeLine; decide), fun U nU => ?_⟩
      obtain ⟨y0, hU⟩ := nw46 (o := .tup [V.str (Str.ofString "take"), .str (Str.ofString "number")]) nU
      refine ⟨U, _, rfl, .inr (.of hU), rfl, rfl, _, rfl, inY (show inV (.str (Str.ofString "take")) _ = true by decide +kernel) ?_⟩
      refine ⟨.ref a, rfl, a, _, 0, _, rfl, rfl, (y0.seqT hs), atI_nat (j := 0) rfl, .ref a, rfl, a, _, 1, _, rfl, rfl, (y0.seqT hs), atI_nat (j := 1) rfl, (by show 2 ≤ sizeLine; decide), fun t1 nt1 => ?_⟩
      obtain ⟨y1, h1⟩ := nw46 (o := .tup [V.str (Str.ofString "hand"), .int (h : Nat)]) nt1
      refine ⟨.ref a, rfl, a, _, 2, _, rfl, rfl, ((y0.trans y1).seqT hs), atI_nat (j := 2) rfl, (by show 3 ≤ sizeLine; decide), fun t3 nt3 => ?_⟩
      obtain ⟨y3, h3⟩ := nw46 (o := .tup [V.str (Str.ofString "take"), .ref t1, .str s]) nt3
      exact q _ t3 ((y0.trans y1).trans y3) ⟨t3, _, rfl, .of h3, _, rfl, ⟨t1, rfl, y3.tup h1⟩⟩
    | number h n =>
      refine ⟨.ref a, rfl, a, _, 0, _, rfl, rfl, hs, atI_nat (j := 0) rfl, rfl, _, rfl, sN (show ¬ Str.ofString "number" = Str.ofString "lay" by decide +kernel) ?_⟩
      refine ⟨.ref a, rfl, a, _, 0, _, rfl, rfl, hs, atI_nat (j := 0) rfl, rfl, _, rfl, sN (show ¬ Str.ofString "number" = Str.ofString "fetch" by decide +kernel) ?_⟩
      refine ⟨.ref a, rfl, a, _, 0, _, rfl, rfl, hs, atI_nat (j := 0) rfl, rfl, _, rfl, sN (show ¬ Str.ofString "number" = Str.ofString "clean" by decide +kernel) ?_⟩
      refine ⟨.ref a, rfl, a, _, 0, _, rfl, rfl, hs, atI_nat (j := 0) rfl, (by show 2 ≤ sizeLine; decide), fun U nU => ?_⟩
      obtain ⟨y0, hU⟩ := nw46 (o := .tup [V.str (Str.ofString "take"), .str (Str.ofString "number")]) nU
      refine ⟨U, _, rfl, .inr (.of hU), rfl, rfl, _, rfl, inY (show inV (.str (Str.ofString "number")) _ = true by decide +kernel) ?_⟩
      refine ⟨.ref a, rfl, a, _, 0, _, rfl, rfl, (y0.seqT hs), atI_nat (j := 0) rfl, .ref a, rfl, a, _, 1, _, rfl, rfl, (y0.seqT hs), atI_nat (j := 1) rfl, (by show 2 ≤ sizeLine; decide), fun t1 nt1 => ?_⟩
      obtain ⟨y1, h1⟩ := nw46 (o := .tup [V.str (Str.ofString "hand"), .int (h : Nat)]) nt1
      refine ⟨.ref a, rfl, a, _, 2, _, rfl, rfl, ((y0.trans y1).seqT hs), atI_nat (j := 2) rfl, (by show 3 ≤ sizeLine; decide), fun t3 nt3 => ?_⟩
      obtain ⟨y3, h3⟩ := nw46 (o := .tup [V.str (Str.ofString "number"), .ref t1, .int n]) nt3
      exact q _ t3 ((y0.trans y1).trans y3) ⟨t3, _, rfl, .of h3, _, rfl, ⟨t1, rfl, y3.tup h1⟩⟩
    | ask h =>
      refine ⟨.ref a, rfl, a, _, 0, _, rfl, rfl, hs, atI_nat (j := 0) rfl, rfl, _, rfl, sN (show ¬ Str.ofString "ask" = Str.ofString "lay" by decide +kernel) ?_⟩
      refine ⟨.ref a, rfl, a, _, 0, _, rfl, rfl, hs, atI_nat (j := 0) rfl, rfl, _, rfl, sN (show ¬ Str.ofString "ask" = Str.ofString "fetch" by decide +kernel) ?_⟩
      refine ⟨.ref a, rfl, a, _, 0, _, rfl, rfl, hs, atI_nat (j := 0) rfl, rfl, _, rfl, sN (show ¬ Str.ofString "ask" = Str.ofString "clean" by decide +kernel) ?_⟩
      refine ⟨.ref a, rfl, a, _, 0, _, rfl, rfl, hs, atI_nat (j := 0) rfl, (by show 2 ≤ sizeLine; decide), fun U nU => ?_⟩
      obtain ⟨y0, hU⟩ := nw46 (o := .tup [V.str (Str.ofString "take"), .str (Str.ofString "number")]) nU
      refine ⟨U, _, rfl, .inr (.of hU), rfl, rfl, _, rfl, inN (show inV (.str (Str.ofString "ask")) _ = false by decide +kernel) ?_⟩
      refine ⟨.ref a, rfl, 1, rfl, a, _, _, rfl, y0.seqT hs, cutTo 1, fun p1 H1 x1 hp1 => ?_⟩
      have hs1 := x1.seqT (y0.seqT hs)
      refine ⟨.ref a, rfl, 1, rfl, a, _, _, rfl, hs1, cutN 1, fun p2 H2 x2 hp2 => ?_⟩
      have hp2 : SqT K H2 p2 (([h] : List Nat).map fun n : Nat => V.int n) := hp2
      refine ⟨p2, rfl, ⟨_, hp2⟩, fun D nD => ?_⟩
      obtain ⟨yD, hD⟩ := nw46 (o := .lst []) nD
      refine lc_it (walk_tup (K := K) (a := p2) (xs := ([h] : List Nat).map fun n : Nat => V.int n)) (fun i H3 => ∃ cs, H3 D = some (.lst cs) ∧ P2 (BxT H3) cs ((([h] : List Nat).take i).map bH) ∧ cs.length = i ∧ Ex [] H2 H3) ⟨[], hD, .nil, rfl, yD⟩ ?_ ?_ ?_
      · rintro i H3 _ ⟨cs, _, _, _, x3⟩
        exact x3.seqT hp2
      · rintro i v9 H0 H3 hi ⟨cs, hD3, p3, l3, x3⟩ ⟨rfl, hx⟩
        rw [List.getElem?_map] at hx
        obtain ⟨g9, hg9, rfl⟩ := Option.map_eq_some_iff.mp hx
        have i3 : i < 3 := Nat.lt_of_lt_of_le (List.getElem?_eq_some_iff.mp hg9).1 (by simp)
        refine ⟨rfl, tyes_if ⟨_, rfl, (by show 2 ≤ sizeLine; decide), fun t9 nt9 => ?_⟩⟩
        obtain ⟨y9, h9⟩ := nw46 (o := .tup [V.str (Str.ofString "hand"), .int (g9 : Nat)]) nt9
        have hD9 := y9.lst hD3
        have xp : Ex [D] (upd H3 t9 (.tup [V.str (Str.ofString "hand"), .int (g9 : Nat)])) (upd (upd H3 t9 (.tup [V.str (Str.ofString "hand"), .int (g9 : Nat)])) D (.lst (cs ++ [.ref t9]))) := .put hD9 nt_lst (by simp)
        refine ⟨cs, hD9, by rw [l3]; exact Nat.lt_of_lt_of_le i3 (by decide), cs ++ [.ref t9], upd_same, ?_, by rw [List.length_append, l3]; rfl, Ex.own nD (x3.trans y9) xp⟩
        rw [List.take_add_one, hg9, List.map_append]
        exact ((p3.imp fun _ _ h => BxT.ex h y9).app (.cons (show BxT _ (.ref t9) (bH g9) from ⟨t9, rfl, h9⟩) .nil)).imp fun _ _ h => BxT.ex h xp
      rintro H4 ⟨cs, hD4, p4, l4, x4⟩
      rw [List.length_map, List.take_length] at p4
      have lcs : cs.length = 1 := p4.len
      refine ⟨D, cs, rfl, .inl ⟨.of hD4, fun t5 nt5 => ?_⟩⟩
      obtain ⟨y5, h5⟩ := nw46 (o := .tup cs) nt5
      have x15 := (x2.trans x4).trans y5
      refine ⟨p1, t5, _, _, rfl, rfl, x15.seqT hp1, .of h5, Nat.le_trans (show [V.str (Str.ofString "ask")].length + cs.length ≤ 10 by rw [lcs]; decide) (by decide), fun p6 H6 x6 hp6 => ?_⟩
      have p4 := p4.imp fun _ _ h => BxT.ex (BxT.ex h y5) x6
      cases p4 with | cons b1 p4 =>
      cases p4
      exact q H6 p6 ((y0.trans x1).trans (x15.trans x6)) ⟨p6, _, rfl, hp6, ⟨_, rfl, b1⟩⟩
    | copy h g =>
      refine ⟨.ref a, rfl, a, _, 0, _, rfl, rfl, hs, atI_nat (j := 0) rfl, rfl, _, rfl, sN (show ¬ Str.ofString "copy" = Str.ofString "lay" by decide +kernel) ?_⟩
      refine ⟨.ref a, rfl, a, _, 0, _, rfl, rfl, hs, atI_nat (j := 0) rfl, rfl, _, rfl, sN (show ¬ Str.ofString "copy" = Str.ofString "fetch" by decide +kernel) ?_⟩
      refine ⟨.ref a, rfl, a, _, 0, _, rfl, rfl, hs, atI_nat (j := 0) rfl, rfl, _, rfl, sN (show ¬ Str.ofString "copy" = Str.ofString "clean" by decide +kernel) ?_⟩
      refine ⟨.ref a, rfl, a, _, 0, _, rfl, rfl, hs, atI_nat (j := 0) rfl, (by show 2 ≤ sizeLine; decide), fun U nU => ?_⟩
      obtain ⟨y0, hU⟩ := nw46 (o := .tup [V.str (Str.ofString "take"), .str (Str.ofString "number")]) nU
      refine ⟨U, _, rfl, .inr (.of hU), rfl, rfl, _, rfl, inN (show inV (.str (Str.ofString "copy")) _ = false by decide +kernel) ?_⟩
      refine ⟨.ref a, rfl, 1, rfl, a, _, _, rfl, y0.seqT hs, cutTo 1, fun p1 H1 x1 hp1 => ?_⟩
      have hs1 := x1.seqT (y0.seqT hs)
      refine ⟨.ref a, rfl, 1, rfl, a, _, _, rfl, hs1, cutN 1, fun p2 H2 x2 hp2 => ?_⟩
      have hp2 : SqT K H2 p2 (([h, g] : List Nat).map fun n : Nat => V.int n) := hp2
      refine ⟨p2, rfl, ⟨_, hp2⟩, fun D nD => ?_⟩
      obtain ⟨yD, hD⟩ := nw46 (o := .lst []) nD
      refine lc_it (walk_tup (K := K) (a := p2) (xs := ([h, g] : List Nat).map fun n : Nat => V.int n)) (fun i H3 => ∃ cs, H3 D = some (.lst cs) ∧ P2 (BxT H3) cs ((([h, g] : List Nat).take i).map bH) ∧ cs.length = i ∧ Ex [] H2 H3) ⟨[], hD, .nil, rfl, yD⟩ ?_ ?_ ?_
      · rintro i H3 _ ⟨cs, _, _, _, x3⟩
        exact x3.seqT hp2
      · rintro i v9 H0 H3 hi ⟨cs, hD3, p3, l3, x3⟩ ⟨rfl, hx⟩
        rw [List.getElem?_map] at hx
        obtain ⟨g9, hg9, rfl⟩ := Option.map_eq_some_iff.mp hx
        have i3 : i < 3 := Nat.lt_of_lt_of_le (List.getElem?_eq_some_iff.mp hg9).1 (by simp)
        refine ⟨rfl, tyes_if ⟨_, rfl, (by show 2 ≤ sizeLine; decide), fun t9 nt9 => ?_⟩⟩
        obtain ⟨y9, h9⟩ := nw46 (o := .tup [V.str (Str.ofString "hand"), .int (g9 : Nat)]) nt9
        have hD9 := y9.lst hD3
        have xp : Ex [D] (upd H3 t9 (.tup [V.str (Str.ofString "hand"), .int (g9 : Nat)])) (upd (upd H3 t9 (.tup [V.str (Str.ofString "hand"), .int (g9 : Nat)])) D (.lst (cs ++ [.ref t9]))) := .put hD9 nt_lst (by simp)
        refine ⟨cs, hD9, by rw [l3]; exact Nat.lt_of_lt_of_le i3 (by decide), cs ++ [.ref t9], upd_same, ?_, by rw [List.length_append, l3]; rfl, Ex.own nD (x3.trans y9) xp⟩
        rw [List.take_add_one, hg9, List.map_append]
        exact ((p3.imp fun _ _ h => BxT.ex h y9).app (.cons (show BxT _ (.ref t9) (bH g9) from ⟨t9, rfl, h9⟩) .nil)).imp fun _ _ h => BxT.ex h xp
      rintro H4 ⟨cs, hD4, p4, l4, x4⟩
      rw [List.length_map, List.take_length] at p4
      have lcs : cs.length = 2 := p4.len
      refine ⟨D, cs, rfl, .inl ⟨.of hD4, fun t5 nt5 => ?_⟩⟩
      obtain ⟨y5, h5⟩ := nw46 (o := .tup cs) nt5
      have x15 := (x2.trans x4).trans y5
      refine ⟨p1, t5, _, _, rfl, rfl, x15.seqT hp1, .of h5, Nat.le_trans (show [V.str (Str.ofString "copy")].length + cs.length ≤ 10 by rw [lcs]; decide) (by decide), fun p6 H6 x6 hp6 => ?_⟩
      have p4 := p4.imp fun _ _ h => BxT.ex (BxT.ex h y5) x6
      cases p4 with | cons b1 p4 =>
      cases p4 with | cons b2 p4 =>
      cases p4
      exact q H6 p6 ((y0.trans x1).trans (x15.trans x6)) ⟨p6, _, rfl, hp6, ⟨_, _, rfl, b1, b2⟩⟩
    | mix h g e9 =>
      refine ⟨.ref a, rfl, a, _, 0, _, rfl, rfl, hs, atI_nat (j := 0) rfl, rfl, _, rfl, sN (show ¬ Str.ofString "mix" = Str.ofString "lay" by decide +kernel) ?_⟩
      refine ⟨.ref a, rfl, a, _, 0, _, rfl, rfl, hs, atI_nat (j := 0) rfl, rfl, _, rfl, sN (show ¬ Str.ofString "mix" = Str.ofString "fetch" by decide +kernel) ?_⟩
      refine ⟨.ref a, rfl, a, _, 0, _, rfl, rfl, hs, atI_nat (j := 0) rfl, rfl, _, rfl, sN (show ¬ Str.ofString "mix" = Str.ofString "clean" by decide +kernel) ?_⟩
      refine ⟨.ref a, rfl, a, _, 0, _, rfl, rfl, hs, atI_nat (j := 0) rfl, (by show 2 ≤ sizeLine; decide), fun U nU => ?_⟩
      obtain ⟨y0, hU⟩ := nw46 (o := .tup [V.str (Str.ofString "take"), .str (Str.ofString "number")]) nU
      refine ⟨U, _, rfl, .inr (.of hU), rfl, rfl, _, rfl, inN (show inV (.str (Str.ofString "mix")) _ = false by decide +kernel) ?_⟩
      refine ⟨.ref a, rfl, 1, rfl, a, _, _, rfl, y0.seqT hs, cutTo 1, fun p1 H1 x1 hp1 => ?_⟩
      have hs1 := x1.seqT (y0.seqT hs)
      refine ⟨.ref a, rfl, 1, rfl, a, _, _, rfl, hs1, cutN 1, fun p2 H2 x2 hp2 => ?_⟩
      have hp2 : SqT K H2 p2 (([h, g, e9] : List Nat).map fun n : Nat => V.int n) := hp2
      refine ⟨p2, rfl, ⟨_, hp2⟩, fun D nD => ?_⟩
      obtain ⟨yD, hD⟩ := nw46 (o := .lst []) nD
      refine lc_it (walk_tup (K := K) (a := p2) (xs := ([h, g, e9] : List Nat).map fun n : Nat => V.int n)) (fun i H3 => ∃ cs, H3 D = some (.lst cs) ∧ P2 (BxT H3) cs ((([h, g, e9] : List Nat).take i).map bH) ∧ cs.length = i ∧ Ex [] H2 H3) ⟨[], hD, .nil, rfl, yD⟩ ?_ ?_ ?_
      · rintro i H3 _ ⟨cs, _, _, _, x3⟩
        exact x3.seqT hp2
      · rintro i v9 H0 H3 hi ⟨cs, hD3, p3, l3, x3⟩ ⟨rfl, hx⟩
        rw [List.getElem?_map] at hx
        obtain ⟨g9, hg9, rfl⟩ := Option.map_eq_some_iff.mp hx
        have i3 : i < 3 := Nat.lt_of_lt_of_le (List.getElem?_eq_some_iff.mp hg9).1 (by simp)
        refine ⟨rfl, tyes_if ⟨_, rfl, (by show 2 ≤ sizeLine; decide), fun t9 nt9 => ?_⟩⟩
        obtain ⟨y9, h9⟩ := nw46 (o := .tup [V.str (Str.ofString "hand"), .int (g9 : Nat)]) nt9
        have hD9 := y9.lst hD3
        have xp : Ex [D] (upd H3 t9 (.tup [V.str (Str.ofString "hand"), .int (g9 : Nat)])) (upd (upd H3 t9 (.tup [V.str (Str.ofString "hand"), .int (g9 : Nat)])) D (.lst (cs ++ [.ref t9]))) := .put hD9 nt_lst (by simp)
        refine ⟨cs, hD9, by rw [l3]; exact Nat.lt_of_lt_of_le i3 (by decide), cs ++ [.ref t9], upd_same, ?_, by rw [List.length_append, l3]; rfl, Ex.own nD (x3.trans y9) xp⟩
        rw [List.take_add_one, hg9, List.map_append]
        exact ((p3.imp fun _ _ h => BxT.ex h y9).app (.cons (show BxT _ (.ref t9) (bH g9) from ⟨t9, rfl, h9⟩) .nil)).imp fun _ _ h => BxT.ex h xp
      rintro H4 ⟨cs, hD4, p4, l4, x4⟩
      rw [List.length_map, List.take_length] at p4
      have lcs : cs.length = 3 := p4.len
      refine ⟨D, cs, rfl, .inl ⟨.of hD4, fun t5 nt5 => ?_⟩⟩
      obtain ⟨y5, h5⟩ := nw46 (o := .tup cs) nt5
      have x15 := (x2.trans x4).trans y5
      refine ⟨p1, t5, _, _, rfl, rfl, x15.seqT hp1, .of h5, Nat.le_trans (show [V.str (Str.ofString "mix")].length + cs.length ≤ 10 by rw [lcs]; decide) (by decide), fun p6 H6 x6 hp6 => ?_⟩
      have p4 := p4.imp fun _ _ h => BxT.ex (BxT.ex h y5) x6
      cases p4 with | cons b1 p4 =>
      cases p4 with | cons b2 p4 =>
      cases p4 with | cons b3 p4 =>
      cases p4
      exact q H6 p6 ((y0.trans x1).trans (x15.trans x6)) ⟨p6, _, rfl, hp6, ⟨_, _, _, rfl, b1, b2, b3⟩⟩
    | opn h g =>
      refine ⟨.ref a, rfl, a, _, 0, _, rfl, rfl, hs, atI_nat (j := 0) rfl, rfl, _, rfl, sN (show ¬ Str.ofString "open" = Str.ofString "lay" by decide +kernel) ?_⟩
      refine ⟨.ref a, rfl, a, _, 0, _, rfl, rfl, hs, atI_nat (j := 0) rfl, rfl, _, rfl, sN (show ¬ Str.ofString "open" = Str.ofString "fetch" by decide +kernel) ?_⟩
      refine ⟨.ref a, rfl, a, _, 0, _, rfl, rfl, hs, atI_nat (j := 0) rfl, rfl, _, rfl, sN (show ¬ Str.ofString "open" = Str.ofString "clean" by decide +kernel) ?_⟩
      refine ⟨.ref a, rfl, a, _, 0, _, rfl, rfl, hs, atI_nat (j := 0) rfl, (by show 2 ≤ sizeLine; decide), fun U nU => ?_⟩
      obtain ⟨y0, hU⟩ := nw46 (o := .tup [V.str (Str.ofString "take"), .str (Str.ofString "number")]) nU
      refine ⟨U, _, rfl, .inr (.of hU), rfl, rfl, _, rfl, inN (show inV (.str (Str.ofString "open")) _ = false by decide +kernel) ?_⟩
      refine ⟨.ref a, rfl, 1, rfl, a, _, _, rfl, y0.seqT hs, cutTo 1, fun p1 H1 x1 hp1 => ?_⟩
      have hs1 := x1.seqT (y0.seqT hs)
      refine ⟨.ref a, rfl, 1, rfl, a, _, _, rfl, hs1, cutN 1, fun p2 H2 x2 hp2 => ?_⟩
      have hp2 : SqT K H2 p2 (([h, g] : List Nat).map fun n : Nat => V.int n) := hp2
      refine ⟨p2, rfl, ⟨_, hp2⟩, fun D nD => ?_⟩
      obtain ⟨yD, hD⟩ := nw46 (o := .lst []) nD
      refine lc_it (walk_tup (K := K) (a := p2) (xs := ([h, g] : List Nat).map fun n : Nat => V.int n)) (fun i H3 => ∃ cs, H3 D = some (.lst cs) ∧ P2 (BxT H3) cs ((([h, g] : List Nat).take i).map bH) ∧ cs.length = i ∧ Ex [] H2 H3) ⟨[], hD, .nil, rfl, yD⟩ ?_ ?_ ?_
      · rintro i H3 _ ⟨cs, _, _, _, x3⟩
        exact x3.seqT hp2
      · rintro i v9 H0 H3 hi ⟨cs, hD3, p3, l3, x3⟩ ⟨rfl, hx⟩
        rw [List.getElem?_map] at hx
        obtain ⟨g9, hg9, rfl⟩ := Option.map_eq_some_iff.mp hx
        have i3 : i < 3 := Nat.lt_of_lt_of_le (List.getElem?_eq_some_iff.mp hg9).1 (by simp)
        refine ⟨rfl, tyes_if ⟨_, rfl, (by show 2 ≤ sizeLine; decide), fun t9 nt9 => ?_⟩⟩
        obtain ⟨y9, h9⟩ := nw46 (o := .tup [V.str (Str.ofString "hand"), .int (g9 : Nat)]) nt9
        have hD9 := y9.lst hD3
        have xp : Ex [D] (upd H3 t9 (.tup [V.str (Str.ofString "hand"), .int (g9 : Nat)])) (upd (upd H3 t9 (.tup [V.str (Str.ofString "hand"), .int (g9 : Nat)])) D (.lst (cs ++ [.ref t9]))) := .put hD9 nt_lst (by simp)
        refine ⟨cs, hD9, by rw [l3]; exact Nat.lt_of_lt_of_le i3 (by decide), cs ++ [.ref t9], upd_same, ?_, by rw [List.length_append, l3]; rfl, Ex.own nD (x3.trans y9) xp⟩
        rw [List.take_add_one, hg9, List.map_append]
        exact ((p3.imp fun _ _ h => BxT.ex h y9).app (.cons (show BxT _ (.ref t9) (bH g9) from ⟨t9, rfl, h9⟩) .nil)).imp fun _ _ h => BxT.ex h xp
      rintro H4 ⟨cs, hD4, p4, l4, x4⟩
      rw [List.length_map, List.take_length] at p4
      have lcs : cs.length = 2 := p4.len
      refine ⟨D, cs, rfl, .inl ⟨.of hD4, fun t5 nt5 => ?_⟩⟩
      obtain ⟨y5, h5⟩ := nw46 (o := .tup cs) nt5
      have x15 := (x2.trans x4).trans y5
      refine ⟨p1, t5, _, _, rfl, rfl, x15.seqT hp1, .of h5, Nat.le_trans (show [V.str (Str.ofString "open")].length + cs.length ≤ 10 by rw [lcs]; decide) (by decide), fun p6 H6 x6 hp6 => ?_⟩
      have p4 := p4.imp fun _ _ h => BxT.ex (BxT.ex h y5) x6
      cases p4 with | cons b1 p4 =>
      cases p4 with | cons b2 p4 =>
      cases p4
      exact q H6 p6 ((y0.trans x1).trans (x15.trans x6)) ⟨p6, _, rfl, hp6, ⟨_, _, rfl, b1, b2⟩⟩
    | tell h =>
      refine ⟨.ref a, rfl, a, _, 0, _, rfl, rfl, hs, atI_nat (j := 0) rfl, rfl, _, rfl, sN (show ¬ Str.ofString "tell" = Str.ofString "lay" by decide +kernel) ?_⟩
      refine ⟨.ref a, rfl, a, _, 0, _, rfl, rfl, hs, atI_nat (j := 0) rfl, rfl, _, rfl, sN (show ¬ Str.ofString "tell" = Str.ofString "fetch" by decide +kernel) ?_⟩
      refine ⟨.ref a, rfl, a, _, 0, _, rfl, rfl, hs, atI_nat (j := 0) rfl, rfl, _, rfl, sN (show ¬ Str.ofString "tell" = Str.ofString "clean" by decide +kernel) ?_⟩
      refine ⟨.ref a, rfl, a, _, 0, _, rfl, rfl, hs, atI_nat (j := 0) rfl, (by show 2 ≤ sizeLine; decide), fun U nU => ?_⟩
      obtain ⟨y0, hU⟩ := nw46 (o := .tup [V.str (Str.ofString "take"), .str (Str.ofString "number")]) nU
      refine ⟨U, _, rfl, .inr (.of hU), rfl, rfl, _, rfl, inN (show inV (.str (Str.ofString "tell")) _ = false by decide +kernel) ?_⟩
      refine ⟨.ref a, rfl, 1, rfl, a, _, _, rfl, y0.seqT hs, cutTo 1, fun p1 H1 x1 hp1 => ?_⟩
      have hs1 := x1.seqT (y0.seqT hs)
      refine ⟨.ref a, rfl, 1, rfl, a, _, _, rfl, hs1, cutN 1, fun p2 H2 x2 hp2 => ?_⟩
      have hp2 : SqT K H2 p2 (([h] : List Nat).map fun n : Nat => V.int n) := hp2
      refine ⟨p2, rfl, ⟨_, hp2⟩, fun D nD => ?_⟩
      obtain ⟨yD, hD⟩ := nw46 (o := .lst []) nD
      refine lc_it (walk_tup (K := K) (a := p2) (xs := ([h] : List Nat).map fun n : Nat => V.int n)) (fun i H3 => ∃ cs, H3 D = some (.lst cs) ∧ P2 (BxT H3) cs ((([h] : List Nat).take i).map bH) ∧ cs.length = i ∧ Ex [] H2 H3) ⟨[], hD, .nil, rfl, yD⟩ ?_ ?_ ?_
      · rintro i H3 _ ⟨cs, _, _, _, x3⟩
        exact x3.seqT hp2
      · rintro i v9 H0 H3 hi ⟨cs, hD3, p3, l3, x3⟩ ⟨rfl, hx⟩
        rw [List.getElem?_map] at hx
        obtain ⟨g9, hg9, rfl⟩ := Option.map_eq_some_iff.mp hx
        have i3 : i < 3 := Nat.lt_of_lt_of_le (List.getElem?_eq_some_iff.mp hg9).1 (by simp)
        refine ⟨rfl, tyes_if ⟨_, rfl, (by show 2 ≤ sizeLine; decide), fun t9 nt9 => ?_⟩⟩
        obtain ⟨y9, h9⟩ := nw46 (o := .tup [V.str (Str.ofString "hand"), .int (g9 : Nat)]) nt9
        have hD9 := y9.lst hD3
        have xp : Ex [D] (upd H3 t9 (.tup [V.str (Str.ofString "hand"), .int (g9 : Nat)])) (upd (upd H3 t9 (.tup [V.str (Str.ofString "hand"), .int (g9 : Nat)])) D (.lst (cs ++ [.ref t9]))) := .put hD9 nt_lst (by simp)
        refine ⟨cs, hD9, by rw [l3]; exact Nat.lt_of_lt_of_le i3 (by decide), cs ++ [.ref t9], upd_same, ?_, by rw [List.length_append, l3]; rfl, Ex.own nD (x3.trans y9) xp⟩
        rw [List.take_add_one, hg9, List.map_append]
        exact ((p3.imp fun _ _ h => BxT.ex h y9).app (.cons (show BxT _ (.ref t9) (bH g9) from ⟨t9, rfl, h9⟩) .nil)).imp fun _ _ h => BxT.ex h xp
      rintro H4 ⟨cs, hD4, p4, l4, x4⟩
      rw [List.length_map, List.take_length] at p4
      have lcs : cs.length = 1 := p4.len
      refine ⟨D, cs, rfl, .inl ⟨.of hD4, fun t5 nt5 => ?_⟩⟩
      obtain ⟨y5, h5⟩ := nw46 (o := .tup cs) nt5
      have x15 := (x2.trans x4).trans y5
      refine ⟨p1, t5, _, _, rfl, rfl, x15.seqT hp1, .of h5, Nat.le_trans (show [V.str (Str.ofString "tell")].length + cs.length ≤ 10 by rw [lcs]; decide) (by decide), fun p6 H6 x6 hp6 => ?_⟩
      have p4 := p4.imp fun _ _ h => BxT.ex (BxT.ex h y5) x6
      cases p4 with | cons b1 p4 =>
      cases p4
      exact q H6 p6 ((y0.trans x1).trans (x15.trans x6)) ⟨p6, _, rfl, hp6, ⟨_, rfl, b1⟩⟩
    | wipe h =>
      refine ⟨.ref a, rfl, a, _, 0, _, rfl, rfl, hs, atI_nat (j := 0) rfl, rfl, _, rfl, sN (show ¬ Str.ofString "wipe" = Str.ofString "lay" by decide +kernel) ?_⟩
      refine ⟨.ref a, rfl, a, _, 0, _, rfl, rfl, hs, atI_nat (j := 0) rfl, rfl, _, rfl, sN (show ¬ Str.ofString "wipe" = Str.ofString "fetch" by decide +kernel) ?_⟩
      refine ⟨.ref a, rfl, a, _, 0, _, rfl, rfl, hs, atI_nat (j := 0) rfl, rfl, _, rfl, sN (show ¬ Str.ofString "wipe" = Str.ofString "clean" by decide +kernel) ?_⟩
      refine ⟨.ref a, rfl, a, _, 0, _, rfl, rfl, hs, atI_nat (j := 0) rfl, (by show 2 ≤ sizeLine; decide), fun U nU => ?_⟩
      obtain ⟨y0, hU⟩ := nw46 (o := .tup [V.str (Str.ofString "take"), .str (Str.ofString "number")]) nU
      refine ⟨U, _, rfl, .inr (.of hU), rfl, rfl, _, rfl, inN (show inV (.str (Str.ofString "wipe")) _ = false by decide +kernel) ?_⟩
      refine ⟨.ref a, rfl, 1, rfl, a, _, _, rfl, y0.seqT hs, cutTo 1, fun p1 H1 x1 hp1 => ?_⟩
      have hs1 := x1.seqT (y0.seqT hs)
      refine ⟨.ref a, rfl, 1, rfl, a, _, _, rfl, hs1, cutN 1, fun p2 H2 x2 hp2 => ?_⟩
      have hp2 : SqT K H2 p2 (([h] : List Nat).map fun n : Nat => V.int n) := hp2
      refine ⟨p2, rfl, ⟨_, hp2⟩, fun D nD => ?_⟩
      obtain ⟨yD, hD⟩ := nw46 (o := .lst []) nD
      refine lc_it (walk_tup (K := K) (a := p2) (xs := ([h] : List Nat).map fun n : Nat => V.int n)) (fun i H3 => ∃ cs, H3 D = some (.lst cs) ∧ P2 (BxT H3) cs ((([h] : List Nat).take i).map bH) ∧ cs.length = i ∧ Ex [] H2 H3) ⟨[], hD, .nil, rfl, yD⟩ ?_ ?_ ?_
      · rintro i H3 _ ⟨cs, _, _, _, x3⟩
        exact x3.seqT hp2
      · rintro i v9 H0 H3 hi ⟨cs, hD3, p3, l3, x3⟩ ⟨rfl, hx⟩
        rw [List.getElem?_map] at hx
        obtain ⟨g9, hg9, rfl⟩ := Option.map_eq_some_iff.mp hx
        have i3 : i < 3 := Nat.lt_of_lt_of_le (List.getElem?_eq_some_iff.mp hg9).1 (by simp)
        refine ⟨rfl, tyes_if ⟨_, rfl, (by show 2 ≤ sizeLine; decide), fun t9 nt9 => ?_⟩⟩
        obtain ⟨y9, h9⟩ := nw46 (o := .tup [V.str (Str.ofString "hand"), .int (g9 : Nat)]) nt9
        have hD9 := y9.lst hD3
        have xp : Ex [D] (upd H3 t9 (.tup [V.str (Str.ofString "hand"), .int (g9 : Nat)])) (upd (upd H3 t9 (.tup [V.str (Str.ofString "hand"), .int (g9 : Nat)])) D (.lst (cs ++ [.ref t9]))) := .put hD9 nt_lst (by simp)
        refine ⟨cs, hD9, by rw [l3]; exact Nat.lt_of_lt_of_le i3 (by decide), cs ++ [.ref t9], upd_same, ?_, by rw [List.length_append, l3]; rfl, Ex.own nD (x3.trans y9) xp⟩
        rw [List.take_add_one, hg9, List.map_append]
        exact ((p3.imp fun _ _ h => BxT.ex h y9).app (.cons (show BxT _ (.ref t9) (bH g9) from ⟨t9, rfl, h9⟩) .nil)).imp fun _ _ h => BxT.ex h xp
      rintro H4 ⟨cs, hD4, p4, l4, x4⟩
      rw [List.length_map, List.take_length] at p4
      have lcs : cs.length = 1 := p4.len
      refine ⟨D, cs, rfl, .inl ⟨.of hD4, fun t5 nt5 => ?_⟩⟩
      obtain ⟨y5, h5⟩ := nw46 (o := .tup cs) nt5
      have x15 := (x2.trans x4).trans y5
      refine ⟨p1, t5, _, _, rfl, rfl, x15.seqT hp1, .of h5, Nat.le_trans (show [V.str (Str.ofString "wipe")].length + cs.length ≤ 10 by rw [lcs]; decide) (by decide), fun p6 H6 x6 hp6 => ?_⟩
      have p4 := p4.imp fun _ _ h => BxT.ex (BxT.ex h y5) x6
      cases p4 with | cons b1 p4 =>
      cases p4
      exact q H6 p6 ((y0.trans x1).trans (x15.trans x6)) ⟨p6, _, rfl, hp6, ⟨_, rfl, b1⟩⟩
def spLHolds (K : PySem.W.Frag) : Sp := fun vs H Q _ => ∃ (r c : Addr) (xs us : List V) (ws : List Wo) (os : List Or), vs = [.ref r, .ref c] ∧ (SqT K H r xs ∨ H r = some (.lst xs)) ∧ P2 (WoH K H) xs ws ∧ (∀ W ∈ ws, KdW true W) ∧ (∀ W ∈ ws, StrW W) ∧ ws.length ≤ 500 ∧ (SqT K H c us ∨ H c = some (.lst us)) ∧ P2 (OrH K H) us os ∧ (∀ o ∈ os, StrW (asW o)) ∧ os.length ≤ 1400 ∧ ∀ H', Ex [] H H' → Q (.bl (holdsB ws os)) H'
theorem deed_lay {x : Str × List PyData × List Nat} (h1 : PyData.strOk x.1 = true) (h2 : PyData.canLayAll0 x.2.1 = true) (h3 : PyData.depthAll x.2.1 ≤ 0) : (deedP x).canLay0 = true ∧ (deedP x).depth ≤ 1 := by
  obtain ⟨k, r, ns⟩ := x
  have la : ∀ (r : List PyData) (ns : List Nat), PyData.canLayAll0 r = true → PyData.depthAll r ≤ 0 → PyData.canLayAll0 (r ++ ns.map fun n : Nat => PyData.int n) = true ∧ PyData.depthAll (r ++ ns.map fun n : Nat => PyData.int n) ≤ 0 := by
    intro r ns
    induction r with
    | nil => intro _ _; exact ⟨ints_lay ns, ints_dep ns⟩
    | cons a r ih =>
      intro q1 q2
      have q1 : (PyData.canLay0 a && PyData.canLayAll0 r) = true := q1
      have q2 : max (PyData.depth a) (PyData.depthAll r) ≤ 0 := q2
      rw [Bool.and_eq_true_iff] at q1
      obtain ⟨i1, i2⟩ := ih q1.2 (by omega)
      refine ⟨?_, ?_⟩
      · show (PyData.canLay0 a && PyData.canLayAll0 (r ++ _)) = true
        rw [q1.1, i1]; rfl
      · show max (PyData.depth a) (PyData.depthAll (r ++ _)) ≤ 0
        omega
  obtain ⟨i1, i2⟩ := la r ns h2 h3
  refine ⟨?_, ?_⟩
  · show (PyData.strOk k && PyData.canLayAll0 (r ++ _)) = true
    rw [h1, i1]; rfl
  · show max (PyData.depth (.str k)) (PyData.depthAll (r ++ ns.map fun n : Nat => PyData.int n)) + 1 ≤ 1
    have : PyData.depth (.str k) = 0 := rfl
    omega
def XlOk (X : List (Str × List PyData × List Nat)) : Prop := ∀ x ∈ X, PyData.strOk x.1 = true ∧ PyData.canLayAll0 x.2.1 = true ∧ PyData.depthAll x.2.1 ≤ 0
theorem runB_lay : ∀ {ws : List Wo} {b : Bs}, (∀ W ∈ ws, StrW W) → XlOk b.X → XlOk (runB b ws).X
  | [], _, _, h => h
  | W :: r, b, hw, h => by
    refine runB_lay (ws := r) (b := stepB b W) (fun V hV => hw V (List.mem_cons_of_mem _ hV)) ?_
    show XlOk (if isO W = true then b.X ++ [_] else b.X)
    split
    · intro x hx
      rcases List.mem_append.mp hx with m | m
      · exact h x m
      · rw [List.mem_singleton.mp m]; exact ⟨kd_ok W, rest_lay (hw W List.mem_cons_self), rest_dep W⟩
    · exact h
theorem xl_lay {X : List (Str × List PyData × List Nat)} (h : XlOk X) : PyData.canLayAll0 (X.map deedP) = true ∧ PyData.depthAll (X.map deedP) ≤ 1 := by
  induction X with
  | nil => exact ⟨rfl, Nat.zero_le _⟩
  | cons x r ih =>
    obtain ⟨h1, h2, h3⟩ := h x List.mem_cons_self
    obtain ⟨d1, d2⟩ := deed_lay h1 h2 h3
    obtain ⟨i1, i2⟩ := ih fun y hy => h y (List.mem_cons_of_mem _ hy)
    refine ⟨?_, ?_⟩
    · show ((deedP x).canLay0 && PyData.canLayAll0 (r.map deedP)) = true
      rw [d1, i1]; rfl
    · show max (deedP x).depth (PyData.depthAll (r.map deedP)) ≤ 1
      omega
/-- what the boxes are as data -/
def bxD : Bx → PyData
  | .s z => .str z
  | .q z n => .tuple [.str z, .int n]
def okB (b : Bx) : Prop := PyData.strOk (match b with | .s z => z | .q z _ => z) = true
theorem bx_dps {H : Hp} {ls : List V} {bs : List Bx} (h : P2 (BxT H) ls bs) : DpAll K H ls (bs.map bxD) := by
  induction h with
  | nil => exact .nil
  | @cons a b l m x t ih =>
    refine .cons ?_ ih
    cases b with
    | s z => obtain rfl : a = .str z := x; exact .str _
    | q z n => obtain ⟨t, rfl, ht⟩ := x; exact .tup (.of ht) (.cons (.str _) (.cons (.int _) .nil))
theorem bx_lay {bs : List Bx} (h : ∀ b ∈ bs, okB b) : PyData.canLayAll0 (bs.map bxD) = true ∧ PyData.depthAll (bs.map bxD) ≤ 1 := by
  induction bs with
  | nil => exact ⟨rfl, Nat.zero_le _⟩
  | cons b r ih =>
    obtain ⟨i1, i2⟩ := ih fun y hy => h y (List.mem_cons_of_mem _ hy)
    have hb := h b List.mem_cons_self
    have h1 : (bxD b).canLay0 = true ∧ (bxD b).depth ≤ 1 := by
      cases b with
      | s z => exact ⟨hb, Nat.zero_le _⟩
      | q z n =>
        refine ⟨?_, Nat.le_refl _⟩
        show (PyData.strOk z && true) = true
        rw [show PyData.strOk z = true from hb]; rfl
    refine ⟨?_, ?_⟩
    · show ((bxD b).canLay0 && PyData.canLayAll0 (r.map bxD)) = true
      rw [h1.1, i1]; rfl
    · show max (bxD b).depth (PyData.depthAll (r.map bxD)) ≤ 1
      have := h1.2
      omega
theorem or_box (o : Or) : okB (boxW (asW o)) := by
  have h1 : PyData.strOk hnd = true := by decide +kernel
  have h2 : PyData.strOk slt = true := by decide +kernel
  cases o <;> first | exact h1 | exact h2
theorem eqv_pair (a b c : List PyData) : PyData.eqv (.tuple [.list a, .list b]) (.tuple [.list c, .list []]) = (PyData.eqv (.list a) (.list c) && b.isEmpty) := by
  simp only [PyData.eqv, PyData.eqvAll, Bool.and_true]
  cases b <;> simp [PyData.eqvAll]
theorem ok_lholds {f f1 f2 : Addr} {fd d1 d2 : FuncData} {k : Nat} (F : Fun K "_law_holds" "_law_holds" s_holds f fd) (C__law_done : Cl P w K mg base k "_law_done" ["_law_known", "_law_row_here"] (spDone K) f1 d1) (C__law_as_word : Cl P w K mg base k "_law_as_word" ["_law_order"] (spAsW K) f2 d2) : FnOk P w K mg base CX0 (k + 1) f fd ["_law_row_here", "_law_code"] (spLHolds K) := by
  refine F.ok sc_holds (fun vs H Q E h => ?_) (fun cdv A outer s H vs Q E hr h => ?_)
  · obtain ⟨r, c, xs, us, ws, os, rfl, _⟩ := h; rfl
  · obtain ⟨r, c, xs, us, ws, os, rfl, hr0, hws, hkd, hst, hwl, hc0, hus, hos, hol, q⟩ := h
    refine ⟨_, (pss_cons (ps_set (i := 2) sc_holds.nd rfl (.inl rfl) pe_dnewT)
      (pss_cons (ps_set (i := 3) sc_holds.nd rfl (.inl rfl) (pe_ix ix_tup (pe_call C__law_done.g hr (by rfl) C__law_done.m C__law_done.k C__law_done.b .nil pass0 (pa_cons (pv 2) (pa_cons (pv 0) pa_nil))) pe_int (fun _ _ => rfl)))
      (pss_one (ps_ret (pe_cmpR (op_eqD hr.units) (pe_call C__law_done.g hr (by rfl) C__law_done.m C__law_done.k C__law_done.b .nil pass0 (pa_cons (pv 2) (pa_cons (pe_lc (own := [("_law_order", 4)]) (g := gName 4) (tt := tYes) rfl sc_holds.nd (pi_seq (pv 1)) (blkOk_by (N := n_holds) (sc := defScope s_holds) (by decide +kernel)) (fun _ _ _ _ _ => pg_name (i := 4) sc_holds.nd rfl (Or.inl rfl)) (fun _ _ _ _ _ => pts_nil) (fun _ _ _ _ _ => (pe_call C__law_as_word.g hr (by rfl) C__law_as_word.m C__law_as_word.k C__law_as_word.b .nil pass0 (pa_cons (pv 4) pa_nil)))) pa_nil))) (pe_tup (pa_cons (pv 3) (pa_cons (pe_lst pa_nil) pa_nil))) (nomark _)))))), ?_⟩
    refine fun kn nkn => ?_
    obtain ⟨yk, hkn⟩ := nw46 (o := .dT []) nkn
    generalize upd H kn (.dT []) = Hk at yk hkn ⊢
    have hrk : SqT K Hk r xs ∨ Hk r = some (.lst xs) := hr0.imp (fun h => yk.seqT h) fun h => yk.lst h
    refine ⟨.ref kn, rfl, .ref r, rfl, kn, r, xs, ws, true, [], rfl, hkn, hrk, hws.imp fun _ _ h => WoH.ex yk h, hkd, by omega, Nat.zero_le _, fun H2 t dl ll dus ls x2 hk2 ht ndl nll dne hdl tdl hll pll => ?_⟩
    refine ⟨t, _, 0, .ref dl, rfl, rfl, .of ht, at0, ?_⟩
    have x02 : Ex [] H H2 := Ex.own nkn yk x2
    have e1 : (lform [] (kyN "number" 0)).1 = (l1 []).ks := rfl
    -- the code as words
    have hdk : dl ≠ kn := fun z => by rw [z, hkn] at ndl; cases ndl
    have hus2 : P2 (OrH K H2) us os := hus.imp fun _ _ h => Tp.ex (e := x02) h
    obtain ⟨J, G, w9, hG⟩ : ∃ J G, SeqW K c us J G ∧ G H2 := by
      rcases hc0 with h | h
      · exact ⟨_, _, .inr ⟨rfl, rfl⟩, x02.seqT h⟩
      · exact ⟨_, _, .inl ⟨rfl, rfl⟩, .of (x02.lst h)⟩
    have Gex : ∀ {Hx : Hp}, Ex [] H2 Hx → G Hx := fun x => by
      rcases w9 with ⟨rfl, rfl⟩ | ⟨rfl, rfl⟩
      · exact x.seqL hG
      · exact x.seqT hG
    have lus : us.length = os.length := hus.len
    refine ⟨.ref kn, rfl, .ref c, rfl, c, us, J, G, rfl, w9, hG, fun L nL => ?_⟩
    obtain ⟨yL, hL⟩ := nw46 (o := .lst []) nL
    refine lc_it w9.walk (fun i H3 => ∃ acc, H3 L = some (.lst acc) ∧ P2 (WoH K H3) acc ((os.take i).map asW) ∧ acc.length = i ∧ Ex [] H2 H3) ⟨[], hL, .nil, rfl, yL⟩ ?_ ?_ ?_
    · rintro i H3 _ ⟨acc, _, _, _, x3⟩
      exact Gex x3
    · rintro i v9 H0 H3 hi ⟨acc, hL3, p3, l3, x3⟩ ⟨rfl, hx⟩
      obtain ⟨o9, ho9, hv9⟩ := hus2.getL hx
      have io : i < os.length := by rw [← lus]; exact hi
      refine ⟨rfl, tyes_if ⟨v9, rfl, v9, o9, rfl, Tp.ex (e := x3) hv9, fun H4 p4 x4 w4 => ?_⟩⟩
      have hL4 := x4.lst hL3
      have xp : Ex [L] H4 (upd H4 L (.lst (acc ++ [.ref p4]))) := .put hL4 nt_lst (by simp)
      refine ⟨acc, hL4, by rw [l3]; exact Nat.lt_of_lt_of_le (show i < 1400 by omega) (by decide), acc ++ [.ref p4], upd_same, ?_, by rw [List.length_append, l3]; rfl, Ex.own nL (x3.trans x4) xp⟩
      rw [List.take_add_one, ho9, List.map_append]
      exact ((p3.imp fun _ _ h => WoH.ex x4 h).app (.cons w4 .nil)).imp fun _ _ h => WoH.ex xp h
    rintro H3 ⟨acc, hL3, p3, l3, x3⟩
    rw [lus, List.take_length] at p3
    have hkn3 := x3.a kn _ (by simp) hk2 (fun _ z => by cases z)
    have nL0 : H2 L = none := nL
    have lkL : L ≠ kn := fun z => by rw [z, hk2] at nL; cases nL
    have dlL : dl ≠ L := fun z => by rw [← z, hdl] at nL; cases nL
    have kl := (runL_ok (n0 := (lform [] (kyN "number" 0)).2) (k0 := 1) (d0 := 0) (l := ⟨(lform [] (kyN "number" 0)).1, [], []⟩) ⟨lform_len _ _, Nat.le_refl _, Nat.le_refl _⟩ ws).k
    refine ⟨kn, L, acc, os.map asW, false, (l1 ws).ks, rfl, hkn3, .inr hL3, p3, fun W hW => by obtain ⟨o, _, rfl⟩ := List.mem_map.mp hW; exact asW_kd o, by rw [List.length_map]; omega, Nat.le_trans kl (by omega), fun H4 t4 dl4 ll4 dus4 ls4 x4 _ ht4 ndl4 nll4 dne4 hdl4 tdl4 hll4 pll4 => ?_⟩
    have hdl3 := x3.lst hdl
    have hdl4' := x4.lst hdl3 (by simpa using hdk)
    refine ⟨.ref dl, rfl, Nat.zero_le _, fun N nN => ?_⟩
    obtain ⟨yN, hN⟩ := nw46 (o := .lst []) nN
    refine ⟨(by show 2 ≤ sizeLine; decide), fun t5 nt5 => ?_⟩
    obtain ⟨y5, h5⟩ := nw46 (o := .tup [.ref dl, .ref N]) nt5
    have x45 := yN.trans y5
    have X1 : XlOk (runB (bM [.number 0]) ws).X := runB_lay hst fun x hx => by cases hx
    have X2 : XlOk (runB (bM (runB (bM [.number 0]) ws).ms) (os.map asW)).X := runB_lay (fun W hW => by obtain ⟨o, ho, rfl⟩ := List.mem_map.mp hW; exact hos o ho) fun x hx => by cases hx
    obtain ⟨a1, a2⟩ := xl_lay X1
    obtain ⟨b1, b2⟩ := xl_lay X2
    have left9 : ∀ b ∈ leftL (l2 ws (os.map asW)).hv, okB b := fun b hb => by
      obtain ⟨p, hp⟩ := left_key hb
      exact runL_keys (P := okB) (fun W hW => by obtain ⟨o, _, rfl⟩ := List.mem_map.mp hW; exact or_box o) (by simp) _ hp
    obtain ⟨c1, c2⟩ := bx_lay left9
    have e9 := lholds_eq ws os
    refine ⟨.tuple [.list (l2 ws (os.map asW)).ds, .list ((leftL (l2 ws (os.map asW)).hv).map bxD)], .tuple [.list (l1 ws).ds, .list []], .tup (.of (x45.tup ht4)) (.cons (.lst (.of (x45.lst hdl4)) (tdl4.ex x45).dp) (.cons (.lst (.of (x45.lst hll4)) (bx_dps (pll4.imp fun _ _ h => BxT.ex h x45))) .nil)), .tup (.of h5) (.cons (.lst (.of (x45.lst hdl4')) (((tdl.ex x3).ex x4).ex x45).dp) (.cons (.lst (.of (y5.lst hN)) .nil) .nil)), ?_, ?_, ?_⟩
    · unfold SeqAt.shaped
      rw [(rb2 ws (os.map asW)).d]
      rw [Bool.and_eq_true_iff]
      refine ⟨?_, decide_eq_true ?_⟩
      · show (PyData.canLayAll0 ((runB (bM (runB (bM [.number 0]) ws).ms) (os.map asW)).X.map deedP) && (PyData.canLayAll0 ((leftL (l2 ws (os.map asW)).hv).map bxD) && true)) = true
        rw [b1, c1]; rfl
      · show max (PyData.depthAll ((runB (bM (runB (bM [.number 0]) ws).ms) (os.map asW)).X.map deedP) + 1) (max (PyData.depthAll ((leftL (l2 ws (os.map asW)).hv).map bxD) + 1) 0) + 1 ≤ 64
        omega
    · unfold SeqAt.shaped
      rw [(rb1 ws).d]
      rw [Bool.and_eq_true_iff]
      refine ⟨?_, decide_eq_true ?_⟩
      · show (PyData.canLayAll0 ((runB (bM [.number 0]) ws).X.map deedP) && true) = true
        rw [a1]; rfl
      · show max (PyData.depthAll ((runB (bM [.number 0]) ws).X.map deedP) + 1) (max (0 + 1) 0) + 1 ≤ 64
        omega
    · have ev : PyData.eqv (.tuple [.list (l2 ws (os.map asW)).ds, .list ((leftL (l2 ws (os.map asW)).hv).map bxD)]) (.tuple [.list (l1 ws).ds, .list []]) = holdsB ws os := by
        rw [eqv_pair, ← e9]
        unfold lholds
        congr 1
        cases leftL (l2 ws (os.map asW)).hv with
        | nil => rfl
        | cons b r => rfl
      rw [ev]
      exact q _ (Ex.own nkn yk (((x2.trans x3.nil).trans x4).trans x45.nil))
end
end K48

namespace Kk
open PySem PySem.Spec PyProof.Rows L2 RZ
/-! zip of a text and a tuple -/
def ItzS (K : PySem.W.Frag) (x : Str) (b : Addr) : It :=
  ⟨fun i H => ∃ (ys : List V) (c : Nat) (y : V), SqT K H b ys ∧ x.cps[i]? = some c ∧ ys[i]? = some y,
    fun i H v H' => ∃ T c y, v = .ref T ∧ H T = none ∧ H' = upd H T (.tup [.str ⟨#[c]⟩, y]) ∧ x.cps[i]? = some c ∧ ∀ ys, SqT K H b ys → ys[i]? = some y,
    fun i H => ∃ ys : List V, SqT K H b ys ∧ i ≤ x.cps.size ∧ i ≤ ys.length ∧ (i = x.cps.size ∨ i = ys.length)⟩
theorem turn_zipS {P : Program} {w : World} {K : PySem.W.Frag} {elts : List Expr} {kk : Nat} {tpos : Pos} {x : Str} {t : Tok} {b z TI TO i1 i2 : Addr} (D : ZipSep2 z TI TO i1 i2 [i1] [i2, b]) (hne : b ≠ i2) :
    Turn P w K (.Tuple elts kk tpos) (ItzS K x b) [z, TI, TO, i1, i2] z (fun i h => IsZip h z TI TO .none ∧ IsTupOf2 h TI (.ref i1) (.ref i2) ∧ (∃ x y, IsTupOf2 h TO x y) ∧ h.IsStrIter i1 (strIterType x) x t i ∧ h.IsTupleIter i2 b i) where
  mem := by simp
  obj := fun i h st c hc => by
    obtain ⟨hz, hTI, ⟨x, y, hTO⟩, ⟨o1, e1, _, d1⟩, ⟨o2, e2, _, d2⟩⟩ := st
    have e' : c = z ∨ c = TI ∨ c = TO ∨ c = i1 ∨ c = i2 := by simpa using hc
    rcases e' with q | q | q | q | q
    · rw [q]; exact ⟨_, hz, fun v q => nomatch q⟩
    · rw [q]; exact ⟨_, hTI, fun v q => nomatch q⟩
    · rw [q]; exact ⟨_, hTO, fun v q => nomatch q⟩
    · rw [q]; exact ⟨o1, e1, fun v q => by rw [d1] at q; cases q⟩
    · rw [q]; exact ⟨o2, e2, fun v q => by rw [d2] at q; cases q⟩
  keep := fun i h h' st k => by
    obtain ⟨hz, hTI, ⟨x, y, hTO⟩, ⟨o1, e1, r1⟩, h2⟩ := st
    exact ⟨k z (by simp) _ hz, k TI (by simp) _ hTI, ⟨x, y, k TO (by simp) _ hTO⟩, ⟨o1, k i1 (by simp) o1 e1, r1⟩, h2.at fun o q => k i2 (by simp) o q⟩
  item := by
    intro X hP hw hK hc i pins s σ H E I hf st hg
    subst hP hw hK
    obtain ⟨hz, hTI, ⟨x0, y0, hTO⟩, h1, h2⟩ := st
    obtain ⟨ys, c, y, hqy, hx, hy⟩ := hg
    obtain ⟨its2, rv2, p2, _⟩ := I.tuple hqy
    obtain ⟨u2, hu2, ru2⟩ := rv2.get hy
    have hzl : z < s.heap.objs.size := Heap.lt_size hz
    have hh : X.A.in1.handled = none := I.ok.hd hc
    have lt1 : i < x.cps.size := (Array.getElem?_eq_some_iff.mp hx).1
    have lt2 : i < its2.toArray.size := by
      have := (List.getElem?_eq_some_iff.mp hu2).1
      simpa using this
    refine wpAny_pyNext_zipD2_item D (Draws.text hh i1 x t) (Draws.tuple hh i2 b hne its2.toArray) hz hTI hTO h1 ⟨h2, p2⟩ lt1 lt2 fun x1 x2 h' tk y1 y2 z' TO' h1' h2' hT hsz hk => ?_
    obtain ⟨c1, t1, ec1, rfl⟩ := y1
    rw [hx] at ec1
    cases ec1
    have y2 : its2.toArray[i]? = some x2 := y2
    have e2 : x2 = u2 := by
      have : its2.toArray[i]? = some u2 := by simpa using hu2
      rw [this] at y2
      exact (Option.some.inj y2).symm
    subst e2
    refine ⟨_, rfl, wpAny_letOwnedTupleGo_zip (s := { s with heap := h', toks := tk }) z' fun h'' z'' sb => ?_⟩
    have hT2 : h''.get? s.heap.objs.size = some { cls := .type "tuple", data := .seq #[.str ⟨#[c]⟩ t1, x2] } := (sb.2 _ (Nat.ne_of_gt hzl)).trans hT
    have new : ObjOk X.prog X.w (upd H s.heap.objs.size (.tup [.str ⟨#[c]⟩, y])) h'' s.heap.objs.size (.tup [.str ⟨#[c]⟩, y]) :=
      ⟨by show 2 ≤ sizeLine; decide, [.str ⟨#[c]⟩ t1, x2], .cons ⟨t1, rfl⟩ (.cons ru2 .nil), ⟨_, hT2, rfl, _, rfl⟩⟩
    have I1 : Inv X pins σ (upd H s.heap.objs.size (.tup [.str ⟨#[c]⟩, y])) { s with heap := h'', toks := tk } :=
      I.turnedNew (t' := tk) (ch := [z, TI, TO, i1, i2]) (fun c o hb q => (sb.2 c (fun q' => hb (by simp [q']))).trans (hk c o (fun q' => hb (by simp [q'])) (fun q' => hb (by simp [q'])) (fun q' => hb (by simp [q'])) (fun q' => hb (by simp [q'])) q)) hf (Nat.le_refl _) new
    refine ⟨.ref s.heap.objs.size, _, I1, rfl, ⟨_, c, y, rfl, I.hok.fresh (Nat.le_refl _), rfl, hx, fun l hl => by rw [I.tuple_inj hl hqy]; exact hy⟩, ⟨z'', ?_, ⟨.str ⟨#[c]⟩ t1, x2, ?_⟩, ?_, ?_⟩, fun c hcm => ?_⟩
    · exact (sb.2 _ D.TIz).trans (hk _ _ D.TIz D.TITO D.TIi1 D.TIi2 hTI)
    · exact (sb.2 _ D.TOz).trans TO'
    · obtain ⟨o1, e1, r1⟩ := h1'
      exact ⟨o1, (sb.2 _ D.zi1.symm).trans e1, r1⟩
    · exact h2'.1.at fun o q => (sb.2 _ D.zi2.symm).trans q
    · have hlt : c < s.heap.objs.size := by
        have e' : c = z ∨ c = TI ∨ c = TO ∨ c = i1 ∨ c = i2 := by simpa using hcm
        rcases e' with q | q | q | q | q
        · rw [q]; exact hzl
        · rw [q]; exact Heap.lt_size hTI
        · rw [q]; exact Heap.lt_size hTO
        · rw [q]; obtain ⟨_, e1, _⟩ := h1; exact Heap.lt_size e1
        · rw [q]; obtain ⟨_, e2, _⟩ := h2; exact Heap.lt_size e2
      rw [upd_ne (Nat.ne_of_lt hlt)]
      exact (hf c hcm).1
  done := by
    intro X hP hw hK hc i pins s σ H E I hf st hg
    subst hP hw hK
    obtain ⟨hz, hTI, ⟨x0, y0, hTO⟩, h1, h2⟩ := st
    obtain ⟨ys, hqy, le1, le2, hend⟩ := hg
    obtain ⟨its2, rv2, p2, _⟩ := I.tuple hqy
    have l2 : ys.length = its2.toArray.size := by simpa using rv2.length
    have hh : X.A.in1.handled = none := I.ok.hd hc
    exact wpAny_pyNext_zipD2_end D (Draws.text hh i1 x t) (Draws.tuple hh i2 b hne its2.toArray) hz hTI hTO h1 ⟨h2, p2⟩ le1 (by omega) (by omega) fun h' tk hk => ⟨rfl, I.turnedL (t' := tk) (ch := [z, TI, TO, i1, i2]) (fun c o hb q =>
      hk c o (fun q' => hb (by simp [q'])) (fun q' => hb (by simp [q'])) (fun q' => hb (by simp [q'])) (fun q' => hb (by simp [q'])) q) hf⟩
  self := fun A i s Q E st h => wpAny_pyIter_zip st.1 h
def iZipS (K : PySem.W.Frag) (ta : TA) : TI := fun σ H R => ta σ H fun vs H1 => ∃ x b ys, vs = [.str x, .ref b] ∧ SqT K H1 b ys ∧ R (ItzS K x b) H1
theorem pi_zipS {X : Cx} {e e2 : Expr} {ta : TA} {p pos tpos : Pos} {elts : List Expr} {kk : Nat} (hg : Gl X "zip") (hm : X.mg "zip" = none) (ha : PA X [e, e2] ta)
    (hs : starEach [e, e2] X.env = (false, eval e X.env) :: starEach [e2] X.env := by rfl) (hpl : (backTo pos (starEach [e2] X.env)).any (·.1) = false := by rfl) :
    PI X (.Tuple elts kk tpos) (.Call (.Name "zip" p) [e, e2] [] pos) (iZipS X.K ta) := by
  refine ⟨fun pins s σ H R I h => ?_⟩
  refine Call_ (ld_blt I hg hm PyProof.Rows.boot_zip (PyProof.Rows.callWith_type1 (thn (ha.run pos pins s σ H _ I h) fun us s1 ⟨vs, H1, I1, r1, q1⟩ => ?_) hs hpl))
  obtain ⟨x, b, ys, ex, hqy, q⟩ := q1
  subst ex
  cases r1 with
  | cons r rr =>
    cases rr with
    | cons r' rr =>
      cases rr
      obtain ⟨t, rfl⟩ := r
      cases r'
      have fresh5 : ∀ c, c ∈ [s1.heap.objs.size + 4, s1.heap.objs.size + 2, s1.heap.objs.size + 3, s1.heap.objs.size, s1.heap.objs.size + 1] → FpOk X pins H1 c := fun c hcm => by
        have e' : c = s1.heap.objs.size + 4 ∨ c = s1.heap.objs.size + 2 ∨ c = s1.heap.objs.size + 3 ∨ c = s1.heap.objs.size ∨ c = s1.heap.objs.size + 1 := by simpa using hcm
        have hle : s1.heap.objs.size ≤ c := by
          rcases e' with z | z | z | z | z
          · rw [z]; exact Nat.le_add_right _ _
          · rw [z]; exact Nat.le_add_right _ _
          · rw [z]; exact Nat.le_add_right _ _
          · rw [z]; exact Nat.le_refl _
          · rw [z]; exact Nat.le_add_right _ _
        exact I1.fpOk hle (I1.hok.fresh hle)
      obtain ⟨its2, rv2, p2, _⟩ := I1.tuple hqy
      obtain ⟨o2, ho2, _⟩ := id p2
      have blt : b < s1.heap.objs.size := Heap.lt_size ho2
      refine zip_begins2 (begins_text x t) (begins_tuple b its2.toArray) trivial p2 fun h' hz hTI hTO g1 g2 hsz hk => wpAny_pyIter_zip hz ?_
      have I2 : Inv X pins σ H1 { s1 with heap := h' } := I1.kept (t' := s1.toks) hk
      have nb : ∀ k : Nat, (s1.heap.objs.size + k : Nat) ≠ b := fun k z => absurd blt (Nat.not_lt.mpr (by rw [← z]; exact Nat.le_add_right _ _))
      have nk : ∀ j k : Nat, j ≠ k → (s1.heap.objs.size + j : Nat) ≠ s1.heap.objs.size + k := fun j k e => by omega
      refine ⟨s1.heap.objs.size + 4, [s1.heap.objs.size + 4, s1.heap.objs.size + 2, s1.heap.objs.size + 3, s1.heap.objs.size, s1.heap.objs.size + 1], _, _, H1, rfl, I2, turn_zipS (t := t) ?_ (nb 1).symm, ⟨hz, hTI, ⟨_, _, hTO⟩, ⟨_, g1, rfl, rfl⟩, ⟨_, g2, rfl, rfl⟩⟩, fresh5, q⟩
      exact ⟨nk 2 4 (by decide), nk 3 4 (by decide), nk 2 3 (by decide), nk 2 0 (by decide), by simp, fun z => nk 4 0 (by decide) (List.mem_singleton.mp z), fun z => nk 3 0 (by decide) (List.mem_singleton.mp z), nk 2 1 (by decide), by simp,
        fun z => by rcases List.mem_cons.mp z with z | z; exact nk 4 1 (by decide) z; exact nb 4 (List.mem_singleton.mp z),
        fun z => by rcases List.mem_cons.mp z with z | z; exact nk 3 1 (by decide) z; exact nb 3 (List.mem_singleton.mp z),
        fun z => by rcases List.mem_cons.mp z with z | z; exact nk 0 1 (by decide) z; exact nb 0 (List.mem_singleton.mp z),
        fun z => nk 1 0 (by decide) (List.mem_singleton.mp z)⟩
def YSgn (x : Str) (f : Nat → Option V) : Nat → Hp → V → Hp → Prop := fun i H v H' => ∃ T c y, v = .ref T ∧ H T = none ∧ H' = upd H T (.tup [.str ⟨#[c]⟩, y]) ∧ x.cps[i]? = some c ∧ f i = some y
theorem walk_zipS {K : PySem.W.Frag} {x : Str} {b : Addr} {ys : List V} {n : Nat} (hn : n = min x.cps.size ys.length) : Walk (ItzS K x b) n (fun H => SqT K H b ys) (YSgn x fun i => ys[i]?) := by
  subst hn
  refine ⟨fun i _ hi q => ?_, fun _ q => ⟨ys, q, by omega, by omega, by omega⟩, fun i H v H' _ q y => ?_⟩
  · have h1 : i < x.cps.size := by omega
    have h2 : i < ys.length := by omega
    exact ⟨ys, x.cps[i], ys[i], q, by simp [h1], by simp [h2]⟩
  · obtain ⟨T, c, z, h1, h2, h3, h4, h5⟩ := y
    exact ⟨T, c, z, h1, h2, h3, h4, h5 ys q⟩
end Kk

set_option maxHeartbeats 8000000
set_option pp.maxSteps 400
set_option pp.deepTerms false
namespace K48
open PySem PySem.Spec PyProof.Rows L2 Kk RZ
abbrev s_below : Stmt := topS 47
abbrev s_iord : Stmt := topS 48
abbrev s_right : Stmt := topS 49
abbrev n_iord : List Str := ["_law_order", "_law_hands", "_law_shapes", "_law_shape", "_law_sign", "_law_part"]
abbrev n_right : List Str := ["_law_row_here", "_law_hands", "_law_code", "_law_order"]
theorem sc_is_below : FnScope ["_law_thing", "_law_end"] ["_law_thing", "_law_end"] (defScope s_below) := ⟨rfl, rfl, rfl, by decide +kernel, rfl, by decide +kernel, by decide +kernel⟩
theorem sc_is_order : FnScope n_iord ["_law_order", "_law_hands"] (defScope s_iord) := ⟨rfl, rfl, rfl, by decide +kernel, rfl, by decide +kernel, by decide +kernel⟩
theorem sc_right : FnScope n_right ["_law_row_here", "_law_hands"] (defScope s_right) := ⟨rfl, rfl, rfl, by decide +kernel, rfl, by decide +kernel, by decide +kernel⟩
theorem op_eq_nilT0 {X : Cx} {k : Nat} (hr : Room k X.A) : OpR X (compareOp .Eq) (fun x y H Q => ∃ a b xs, x = .ref a ∧ y = .ref b ∧ SqT X.K H a xs ∧ SqT X.K H b [] ∧ Q (.bl xs.isEmpty) H) := by
  intro pins s σ H x y v u Q I rx ry h
  obtain ⟨a, b, xs, rfl, rfl, ha, hb, q⟩ := h
  cases (show v = Value.ref a from rx)
  cases (show u = Value.ref b from ry)
  obtain ⟨its, r, pt, hz⟩ := I.tuple ha
  obtain ⟨its2, r2, pt2, hz2⟩ := I.tuple hb
  have e2 : its2 = [] := List.length_eq_zero_iff.mp r2.length.symm
  subst e2
  refine SeqAt.RcAt.tuples (e := fun _ => true) pt pt2 hr.units0 (fun j _ h2 => absurd h2 (Nat.not_lt_zero j)) X.prog X.w X.xe _ ⟨.bl xs.isEmpty, H, I, ?_, q⟩
  have e1 := r.length
  cases xs with
  | nil =>
    have : its = [] := List.length_eq_zero_iff.mp e1.symm
    subst this
    rfl
  | cons z zs =>
    cases its with
    | nil => cases e1
    | cons i its => rfl
def shT : List (Str × Str) := [("take", "hw"), ("ask", "h"), ("number", "hn"), ("copy", "hh"), ("mix", "hhh"), ("open", "hh"), ("tell", "h"), ("wipe", "h"), ("lay", "sh"), ("fetch", "hs"), ("clean", "s")].map fun p => (Str.ofString p.1, Str.ofString p.2)
def shKV : List (L2.Key × V) := shT.map fun p => (Sum.inr p.1, .str p.2)
def shS : Or → Str
  | .take _ _ => Str.ofString "hw"
  | .ask _ => Str.ofString "h"
  | .number _ _ => Str.ofString "hn"
  | .copy _ _ => Str.ofString "hh"
  | .mix _ _ _ => Str.ofString "hhh"
  | .opn _ _ => Str.ofString "hh"
  | .tell _ => Str.ofString "h"
  | .wipe _ => Str.ofString "h"
  | .lay _ _ => Str.ofString "sh"
  | .fetch _ _ => Str.ofString "hs"
  | .clean _ => Str.ofString "s"
theorem sh_val (o : Or) : valV shKV (.inr (orK o)) = some (.str (shS o)) := by
  cases o <;> (show valV shKV (.inr (Str.ofString _)) = some (.str (Str.ofString _)); decide +kernel)
theorem sh_ne (o : Or) : ¬ shS o = Str.ofString "" := by
  cases o <;> (show ¬ Str.ofString _ = Str.ofString ""; decide +kernel)
theorem sh_len (o : Or) : (shS o).cps.size = (orV o).length ∧ (shS o).cps.size ≤ 3 := by
  cases o with
  | take _ _ => exact ⟨(show (Str.ofString "hw").cps.size = 2 by decide +kernel), (show (Str.ofString "hw").cps.size ≤ 3 by decide +kernel)⟩
  | ask _ => exact ⟨(show (Str.ofString "h").cps.size = 1 by decide +kernel), (show (Str.ofString "h").cps.size ≤ 3 by decide +kernel)⟩
  | number _ _ => exact ⟨(show (Str.ofString "hn").cps.size = 2 by decide +kernel), (show (Str.ofString "hn").cps.size ≤ 3 by decide +kernel)⟩
  | copy _ _ => exact ⟨(show (Str.ofString "hh").cps.size = 2 by decide +kernel), (show (Str.ofString "hh").cps.size ≤ 3 by decide +kernel)⟩
  | mix _ _ _ => exact ⟨(show (Str.ofString "hhh").cps.size = 3 by decide +kernel), (show (Str.ofString "hhh").cps.size ≤ 3 by decide +kernel)⟩
  | opn _ _ => exact ⟨(show (Str.ofString "hh").cps.size = 2 by decide +kernel), (show (Str.ofString "hh").cps.size ≤ 3 by decide +kernel)⟩
  | tell _ => exact ⟨(show (Str.ofString "h").cps.size = 1 by decide +kernel), (show (Str.ofString "h").cps.size ≤ 3 by decide +kernel)⟩
  | wipe _ => exact ⟨(show (Str.ofString "h").cps.size = 1 by decide +kernel), (show (Str.ofString "h").cps.size ≤ 3 by decide +kernel)⟩
  | lay _ _ => exact ⟨(show (Str.ofString "sh").cps.size = 2 by decide +kernel), (show (Str.ofString "sh").cps.size ≤ 3 by decide +kernel)⟩
  | fetch _ _ => exact ⟨(show (Str.ofString "hs").cps.size = 2 by decide +kernel), (show (Str.ofString "hs").cps.size ≤ 3 by decide +kernel)⟩
  | clean _ => exact ⟨(show (Str.ofString "s").cps.size = 1 by decide +kernel), (show (Str.ofString "s").cps.size ≤ 3 by decide +kernel)⟩
def endOf (h : Int) (c : Nat) : Int := if c = 104 then h else if c = 115 then 60 else 10000
def endKV (h : Int) : List (L2.Key × V) := [(.inr (Str.ofString "h"), .int h), (.inr (Str.ofString "s"), .int 60), (.inr (Str.ofString "n"), .int 10000)]
theorem end_val {c : Nat} (h : Int) (m : c = 104 ∨ c = 115 ∨ c = 110) : valV (endKV h) (.inr ⟨#[c]⟩) = some (.int (endOf h c)) := by
  rcases m with rfl | rfl | rfl <;> rfl
def PartOk (hh : Nat) (c : Nat) (y : V) : Prop := (c = 119 ∧ ∃ s, y = .str s) ∨ ((c = 104 ∨ c = 115 ∨ c = 110) ∧ ∃ n : Int, y = .int n ∧ 0 ≤ n ∧ n < endOf hh c)
theorem part_ok {o : Or} {hh : Nat} (g : OrG o) (h : Hds hh o) : ∀ (i c : Nat) (y : V), (shS o).cps[i]? = some c → (orV o)[i]? = some y → PartOk hh c y := by
  have ph : ∀ {x : Nat}, x < hh → PartOk hh 104 (.int x) := fun {x} l => .inr ⟨.inl rfl, x, rfl, by omega, by show (x : Int) < (hh : Int); omega⟩
  have ps : ∀ {x : Nat}, x < 60 → PartOk hh 115 (.int x) := fun {x} l => .inr ⟨.inr (.inl rfl), x, rfl, by omega, by show (x : Int) < 60; omega⟩
  have pn : ∀ {n : Int}, 0 ≤ n → n < 10000 → PartOk hh 110 (.int n) := fun {n} a b => .inr ⟨.inr (.inr rfl), n, rfl, a, b⟩
  have key : ∀ (cs : List Nat) (ys : List V), P2 (PartOk hh) cs ys → ∀ (i c : Nat) (y : V), cs[i]? = some c → ys[i]? = some y → PartOk hh c y := fun cs ys p i c y e1 e2 => by
    obtain ⟨y', e3, r⟩ := p.getL e1
    rw [e2] at e3; cases e3; exact r
  intro i c y e1 e2
  rw [← Array.getElem?_toList] at e1
  refine key _ _ ?_ i c y e1 e2
  cases o with
  | take x s => exact (show P2 (PartOk hh) [104, 119] [.int x, .str s] from (.cons (ph (h x (by simp [handsO]))) (.cons (.inl ⟨rfl, s, rfl⟩) .nil)))
  | ask x => exact (show P2 (PartOk hh) [104] [.int x] from (.cons (ph (h x (by simp [handsO]))) .nil))
  | number x n => exact (show P2 (PartOk hh) [104, 110] [.int x, .int n] from (.cons (ph (h x (by simp [handsO]))) (.cons (pn (of_decide_eq_true (Bool.and_eq_true_iff.mp g.1).1) (of_decide_eq_true (Bool.and_eq_true_iff.mp g.1).2)) .nil)))
  | copy x y => exact (show P2 (PartOk hh) [104, 104] [.int x, .int y] from (.cons (ph (h x (by simp [handsO]))) (.cons (ph (h y (by simp [handsO]))) .nil)))
  | mix x y z => exact (show P2 (PartOk hh) [104, 104, 104] [.int x, .int y, .int z] from (.cons (ph (h x (by simp [handsO]))) (.cons (ph (h y (by simp [handsO]))) (.cons (ph (h z (by simp [handsO]))) .nil))))
  | opn x y => exact (show P2 (PartOk hh) [104, 104] [.int x, .int y] from (.cons (ph (h x (by simp [handsO]))) (.cons (ph (h y (by simp [handsO]))) .nil)))
  | tell x => exact (show P2 (PartOk hh) [104] [.int x] from (.cons (ph (h x (by simp [handsO]))) .nil))
  | wipe x => exact (show P2 (PartOk hh) [104] [.int x] from (.cons (ph (h x (by simp [handsO]))) .nil))
  | lay s x => exact (show P2 (PartOk hh) [115, 104] [.int s, .int x] from (.cons (ps (of_decide_eq_true g.1)) (.cons (ph (h x (by simp [handsO]))) .nil)))
  | fetch x s => exact (show P2 (PartOk hh) [104, 115] [.int x, .int s] from (.cons (ph (h x (by simp [handsO]))) (.cons (ps (of_decide_eq_true g.1)) .nil)))
  | clean s => exact (show P2 (PartOk hh) [115] [.int s] from (.cons (ps (of_decide_eq_true g.1)) .nil))
theorem RowIn.ex {K : PySem.W.Frag} {T5 T6 : Addr} {H H' : Hp} {r : Addr} {o : Option (List Wo)} {xs : List Addr} (h : RowIn K T5 T6 H r o) (e : Ex xs H H') : RowIn K T5 T6 H' r o := by
  cases o with
  | none => obtain ⟨us, ks, a, b, c, d⟩ := h; exact ⟨us, ks, e.seqT a, e.t _ b, c.imp fun _ _ h => h.ex e, d⟩
  | some ws => obtain ⟨us, B, Wn, a, b, c, d, r⟩ := h; exact ⟨us, B, Wn, e.seqT a, e.t _ b, e.t _ c, d.imp fun _ _ h => WoH.ex e h, r⟩
section
variable {P : Program} {w : World} {K : PySem.W.Frag} {mg : Str → Option Value} {base : Heap}
def spBelow (K : PySem.W.Frag) : Sp := fun vs H Q _ => ∃ (n e : Int), vs = [.int n, .int e] ∧ 0 ≤ n ∧ n < e ∧ Q (.bl true) H
theorem ok_below {f : Addr} {fd : FuncData} {k : Nat} (F : Fun K "_law_is_below" "_law_is_below" s_below f fd) (m_isinstance : mg "isinstance" = none) (m_int : mg "int" = none) (m_bool : mg "bool" = none) : FnOk P w K mg base CX0 (k + 1) f fd ["_law_thing", "_law_end"] (spBelow K) := by
  refine F.ok sc_is_below (fun vs H Q E h => ?_) (fun cdv A outer s H vs Q E hr h => ?_)
  · obtain ⟨n, e, rfl, _⟩ := h; rfl
  · obtain ⟨n, en, rfl, h0, h1, q⟩ := h
    refine ⟨_, (pss_one (ps_ret (pe_and (pe_callB call_isi (by rfl) m_isinstance (by decide +kernel) (pa_cons (pv 0) (pa_cons (pe_bltn (v := .ty "int") (by rfl) m_int (by decide +kernel) rfl) pa_nil))) (pe_and (pe_not (pe_callB call_isi (by rfl) m_isinstance (by decide +kernel) (pa_cons (pv 0) (pa_cons (pe_bltn (v := .ty "bool") (by rfl) m_bool (by decide +kernel) rfl) pa_nil)))) (pe_one (pe_chain op_le op_lt pe_int (pv 0) (pv 1))))))), ?_⟩
    have hd : Dp K H (.int n) (.int n) := .int n
    refine ⟨.int n, rfl, .int n, .ty "int", .type (tyN (.int n)), .type "int", true, rfl, .ty "int", dp_ty hd, kit_ty (kit_int (.int n)), _, rfl, iteT ?_⟩
    refine ⟨.int n, rfl, .int n, .ty "bool", .type (tyN (.int n)), .type "bool", false, rfl, .ty "bool", dp_ty hd, kit_ty (kit_bool (.int n)), _, rfl, _, rfl, iteT ?_⟩
    refine ⟨.int n, rfl, 0, n, rfl, rfl, _, rfl, ite2 (fun b => ⟨.int en, rfl, n, en, rfl, rfl, ?_⟩) fun b => absurd (decide_eq_true h0) b⟩
    show Q (.bl (decide (n < en))) H
    rw [decide_eq_true h1]
    exact q
def spIsOrd (K : PySem.W.Frag) : Sp := fun vs H Q _ => ∃ (v : V) (hh : Nat) (o : Or), vs = [v, .int hh] ∧ OrH K H v o ∧ OrG o ∧ Hds hh o ∧ ∀ H', Ex [] H H' → Q (.bl true) H'
theorem ok_iord {f f1 : Addr} {fd d1 : FuncData} {k : Nat} (F : Fun K "_law_is_order" "_law_is_order" s_iord f fd) (C__law_is_below : Cl P w K mg base k "_law_is_below" ["_law_thing", "_law_end"] (spBelow K) f1 d1) (m_isinstance : mg "isinstance" = none) (m_tuple : mg "tuple" = none) (m_str : mg "str" = none) (m_len : mg "len" = none) (m_zip : mg "zip" = none) : FnOk P w K mg base CX0 (k + 1) f fd ["_law_order", "_law_hands"] (spIsOrd K) := by
  refine F.ok sc_is_order (fun vs H Q E h => ?_) (fun cdv A outer s H vs Q E hr h => ?_)
  · obtain ⟨v, hh, o, rfl, _⟩ := h; rfl
  · obtain ⟨v, hh, o, rfl, ho, og, hd, q⟩ := h
    refine ⟨_, (pss_cons (ps_set (i := 2) sc_is_order.nd rfl (.inl rfl) (pe_disp (pps_cons pe_str pe_str (pps_cons pe_str pe_str (pps_cons pe_str pe_str (pps_cons pe_str pe_str (pps_cons pe_str pe_str (pps_cons pe_str pe_str (pps_cons pe_str pe_str (pps_cons pe_str pe_str (pps_cons pe_str pe_str (pps_cons pe_str pe_str (pps_cons pe_str pe_str pps_nil))))))))))) (by rfl) (by rfl) (fun z => by cases z) (by decide)))
      (pss_cons (ps_if (PW.pt (pw_or (pt_not (pt_val (pe_callB call_isi (by rfl) m_isinstance (by decide +kernel) (pa_cons (pv 0) (pa_cons (pe_bltn (v := .ty "tuple") (by rfl) m_tuple (by decide +kernel) rfl) pa_nil))))) (pw_or (pt_cmpR (op_eq_nilT0 hr) (pv 0) (pe_tup pa_nil) (nomark _)) (pw_or1 (pt_not (pt_val (pe_callB call_isi (by rfl) m_isinstance (by decide +kernel) (pa_cons (pe_ix ix_tup (pv 0) pe_int (fun _ _ => rfl)) (pa_cons (pe_bltn (v := .ty "str") (by rfl) m_str (by decide +kernel) rfl) pa_nil))))))))) (pss_one (ps_ret pe_bl)) pss_nil)
      (pss_cons (ps_set (i := 3) sc_is_order.nd rfl (.inl rfl) (pe_dget2 (hu_of hr) (pv 2) (pe_ix ix_tup (pv 0) pe_int (fun _ _ => rfl)) pe_str ⟨rfl, rfl, rfl, rfl⟩))
      (pss_cons (ps_if (PW.pt (pw_or (pt_cmpR op_eq (pv 3) pe_str (nomark _)) (pw_or1 (pt_cmpR op_ne (pe_callB call_len_seq (by rfl) m_len PySem.boot_len (pa_cons (pv 0) pa_nil)) (pe_op op_add pe_int (pe_callB call_len_str (by rfl) m_len PySem.boot_len (pa_cons (pv 3) pa_nil))) (nomark _))))) (pss_one (ps_ret pe_bl)) pss_nil)
      (pss_cons (ps_for PassesOwn.never rfl (pi_zipS (by rfl) m_zip (pa_cons (pv 3) (pa_cons (pe_slice (sl_tupG (K := K) rfl) (pv 0) (po_some pe_int) po_none) pa_nil))) (pg_tup rfl (pgs_cons (pg_name (i := 4) sc_is_order.nd rfl (.inl rfl)) (pgs_cons (pg_name (i := 5) sc_is_order.nd rfl (.inl rfl)) pgs_nil))) (pss_cons (ps_if (PW.pt (pw_and (pt_cmpR op_eq (pv 4) pe_str (nomark _)) (pw_and1 (pt_not (pt_val (pe_callB call_isi (by rfl) m_isinstance (by decide +kernel) (pa_cons (pv 5) (pa_cons (pe_bltn (v := .ty "str") (by rfl) m_str (by decide +kernel) rfl) pa_nil)))))))) (pss_one (ps_ret pe_bl)) pss_nil)
      (pss_one (ps_if (PW.pt (pw_and (pt_cmpR op_ne (pv 4) pe_str (nomark _)) (pw_and1 (pt_not (pt_val (pe_call C__law_is_below.g hr (by rfl) C__law_is_below.m C__law_is_below.k C__law_is_below.b .nil pass0 (pa_cons (pv 5) (pa_cons (pe_dget (hu_of hr) (pe_disp (pps_cons pe_str (pv 1) (pps_cons pe_str pe_int (pps_cons pe_str pe_int pps_nil))) (by rfl) (by rfl) (fun z => by cases z) (by decide)) (pv 4) (fun _ _ => rfl)) pa_nil)))))))) (pss_one (ps_ret pe_bl)) pss_nil))))
      (pss_one (ps_ret pe_bl))))))), ?_⟩
    have hdp := ho.dp
    obtain ⟨a, rfl, hs⟩ := or_inv ho
    have pok := part_ok og hd
    obtain ⟨sl1, sl2⟩ := sh_len o
    intro p np
    refine ⟨upd_same, shKV, rfl, by decide, ?_⟩
    have e1 : mergeK [] shKV = shKV := by decide +kernel
    have e2 : upd (upd H p (.dK [])) p (.dK shKV) = upd H p (.dK shKV) := by
      funext b
      by_cases z : b = p
      · rw [z, upd_same, upd_same]
      · rw [upd_ne z, upd_ne z, upd_ne z]
    rw [e1, e2]
    obtain ⟨yp, hp⟩ := nw46 (o := .dK shKV) np
    have hs1 := yp.seqT hs
    have hdp1 := dp_ex yp hdp
    generalize upd H p (.dK shKV) = H1 at yp hp hs1 hdp1 ⊢
    refine ⟨.ref a, rfl, .ref a, .ty "tuple", .type "tuple", .type "tuple", true, rfl, .ty "tuple", dp_ty hdp1, kit_ty (by decide +kernel), _, rfl, iteF ?_⟩
    refine ⟨.ref a, rfl, (by show 0 ≤ sizeLine; decide), fun t0 nt0 => ?_⟩
    obtain ⟨y0, h0⟩ := nw46 (o := .tup []) nt0
    have x02 := yp.trans y0
    have hs2 := y0.seqT hs1
    have hp2 := y0.a p _ (by simp) hp (fun _ z => by cases z)
    generalize upd H1 t0 (.tup []) = H2 at y0 h0 x02 hs2 hp2 ⊢
    refine ⟨a, t0, _, rfl, rfl, hs2, .of h0, _, rfl, iteF ?_⟩
    refine ⟨.ref a, rfl, a, _, 0, _, rfl, rfl, hs2, at0, .str (orK o), .ty "str", .type "str", .type "str", true, rfl, .ty "str", dp_ty (K := K) (H := H2) (.str (orK o)), kit_ty (by decide +kernel), _, rfl, iteF ?_⟩
    have g := DGet.k (k := .inr (orK o)) hp2
    rw [sh_val o] at g
    refine ⟨.ref p, rfl, p, rfl, .inl ⟨_, .of hp2⟩, .ref a, rfl, a, _, 0, _, rfl, rfl, hs2, at0, some (.str (shS o)), g, ?_⟩
    refine ⟨.str (shS o), rfl, rfl, _, rfl, ?_⟩
    rw [decide_eq_false (show ¬ V.str (shS o) = V.str (Str.ofString "") from fun z => sh_ne o (V.str.inj z))]
    refine iteF ⟨.ref a, rfl, a, _, rfl, .inr hs2, .str (shS o), rfl, shS o, rfl, Nat.le_trans (show (shS o).cps.size ≤ 3 from sl2) (by decide), 1, _, rfl, rfl, rfl, _, rfl, ?_⟩
    have el : ((V.str (orK o) :: orV o).length : Int) = 1 + ((shS o).length : Nat) := by
      show (((orV o).length + 1 : Nat) : Int) = 1 + ((shS o).cps.size : Nat)
      rw [sl1]; omega
    rw [el, decide_eq_true rfl]
    refine iteF ⟨.str (shS o), rfl, .ref a, rfl, 1, rfl, a, _, _, rfl, hs2, cutN 1, fun p3 H3 x3 hp3 => ?_⟩
    have hp3 : SqT K H3 p3 (orV o) := hp3
    refine ⟨shS o, p3, _, rfl, hp3, ?_⟩
    refine for_it (walk_zipS (K := K) (x := shS o) (b := p3) (ys := orV o) rfl) (fun i σ H4 => ∃ (y4 y5 : Option V), σ = [some (.ref a), some (.int hh), some (.ref p), some (.str (shS o)), y4, y5] ∧ Ex [] H3 H4) ⟨_, _, rfl, .refl⟩ (fun i σ H4 _ ⟨_, _, _, x⟩ => x.seqT hp3) ?_ ?_
    · rintro i v9 σ H0 H4 hi ⟨y4, y5, rfl, x4⟩ ⟨T9, c9, y9, rfl, n9, rfl, hc9, hy9⟩
      obtain ⟨yT, hT9⟩ := nw46 (o := .tup [.str ⟨#[c9]⟩, y9]) n9
      have x5 := x4.trans yT
      generalize upd H0 T9 (.tup [.str ⟨#[c9]⟩, y9]) = H5 at yT hT9 x5 ⊢
      refine ⟨T9, _, rfl, .of hT9, rfl, _, _, rfl, _, _, rfl, rfl, ?_⟩
      rcases pok i c9 y9 hc9 hy9 with ⟨rfl, s9, rfl⟩ | ⟨hc, n9', rfl, n0, n1⟩
      · refine ⟨.str ⟨#[119]⟩, rfl, rfl, _, rfl, iteT ?_⟩
        refine ⟨.str s9, rfl, .str s9, .ty "str", .type "str", .type "str", true, rfl, .ty "str", dp_ty (K := K) (H := H5) (.str s9), kit_ty (by decide +kernel), _, rfl, iteF ?_⟩
        refine ⟨.str ⟨#[119]⟩, rfl, rfl, _, rfl, iteF ⟨_, _, rfl, x5⟩⟩
      · have nw : ¬ (⟨#[c9]⟩ : Str) = Str.ofString "w" := fun z => by
          have z : (⟨#[c9]⟩ : Str) = ⟨#[119]⟩ := z
          have z2 : c9 = 119 := by simpa using z
          omega
        refine ⟨.str ⟨#[c9]⟩, rfl, rfl, _, rfl, ?_⟩
        rw [decide_eq_false (show ¬ V.str ⟨#[c9]⟩ = V.str (Str.ofString "w") from fun z => nw (V.str.inj z))]
        refine iteF ⟨.str ⟨#[c9]⟩, rfl, rfl, _, rfl, ?_⟩
        rw [decide_eq_false (show ¬ V.str ⟨#[c9]⟩ = V.str (Str.ofString "w") from fun z => nw (V.str.inj z))]
        have xx : ∀ p (o o' : HO), H5 p = none → Ex [] H5 (upd (upd H5 p o) p o') := fun p o o' np => by rw [L2.upd_upd]; exact .new np
        refine iteT ⟨.int n9', rfl, fun p6 np6 => ⟨.int hh, rfl, upd_same, endKV hh, rfl, (by show 3 ≤ 15; decide), .str ⟨#[c9]⟩, rfl, p6, .int (endOf hh c9), rfl, ?_, n9', endOf hh c9, rfl, n0, n1, _, rfl, iteF ⟨_, _, rfl, x5.trans (xx p6 _ _ np6)⟩⟩⟩
        rw [← end_val hh hc]
        have em : mergeK [] (endKV hh) = endKV hh := rfl
        rw [em]
        exact DGet.k (k := Sum.inr ⟨#[c9]⟩) upd_same
    · rintro σ H4 ⟨y4, y5, rfl, x4⟩
      exact q H4 ((x02.trans x3).trans x4)
def spRight (K : PySem.W.Frag) (T1 T3 T4 T5 T6 : Addr) : Sp := fun vs H Q _ => ∃ (r : Addr) (n : Nat) (ws : List Wo), vs = [.ref r, .int n] ∧ 3 ≤ n ∧ n ≤ 20 ∧ RowIn K T5 T6 H r (some ws) ∧ NoK ws ∧ Tabs H T1 T3 T4 T5 ∧ ∀ H', Ex [] H H' → Q (.bl true) H'
theorem ok_right {f f1 f2 f3 f4 f5 CN T1 T3 T4 T5 T6 : Addr} {fd d1 d2 d3 d4 d5 : FuncData} {k : Nat} (F : Fun K "_law_right" "_law_right" s_right f fd) (C_coded : ClX P w K mg base k "coded" ["row", "hands"] (spCoded K CN T5 T6) f1 d1) (C__law_is_order : Cl P w K mg base k "_law_is_order" ["_law_order", "_law_hands"] (spIsOrd K) f2 d2) (C_is_code : Cl P w K mg base k "is_code" ["hands", "thing"] (spCode K T1 T3 T4) f3 d3) (C__law_holds : Cl P w K mg base k "_law_holds" ["_law_row_here", "_law_code"] (spLHolds K) f4 d4) (C_code_holds : Cl P w K mg base k "code_holds" ["row", "hands", "code"] (spHolds K T1 T3 T4 T5) f5 d5)
    (m_isinstance : mg "isinstance" = none) (m_tuple : mg "tuple" = none) : FnOk P w K mg base CX0 (k + 1) f fd ["_law_row_here", "_law_hands"] (spRight K T1 T3 T4 T5 T6) := by
  refine F.ok sc_right (fun vs H Q E h => ?_) (fun cdv A outer s H vs Q E hr h => ?_)
  · obtain ⟨r, n, ws, rfl, _⟩ := h; rfl
  · obtain ⟨r, hh, ws, rfl, h3, h20, hR, nk, hT, q⟩ := h
    refine ⟨_, (pss_cons (ps_set (i := 2) sc_right.nd rfl (.inl rfl) (pe_call C_coded.g hr (by rfl) C_coded.m C_coded.k C_coded.b .nil (passes_call takes0 fun _ _ _ _ h => h) (pa_cons (pv 0) (pa_cons (pv 1) pa_nil))))
      (pss_cons (ps_if (PW.pt (pw_or (pt_not (pt_val (pe_callB call_isi (by rfl) m_isinstance (by decide +kernel) (pa_cons (pv 2) (pa_cons (pe_bltn (v := .ty "tuple") (by rfl) m_tuple (by decide +kernel) rfl) pa_nil))))) (pw_or1 (pt_cmpR (op_ne_nil hr) (pe_lc (own := [("_law_order", 3)]) (g := gName 3) rfl sc_right.nd (pi_tup (pv 2)) (blkOk_by (N := n_right) (sc := defScope s_right) (by decide +kernel)) (fun _ _ _ _ _ => pg_name (i := 3) sc_right.nd rfl (Or.inl rfl)) (fun _ _ _ _ _ => pts_one (pt_not (pt_val (pe_call C__law_is_order.g hr (by rfl) C__law_is_order.m C__law_is_order.k C__law_is_order.b .nil pass0 (pa_cons (pv 3) (pa_cons (pv 1) pa_nil)))))) (fun _ _ _ _ _ => pe_int)) (pe_lst pa_nil) (nomark _))))) (pss_one (ps_ret pe_bl)) pss_nil)
      (pss_cons (ps_if (PW.pt (pw_or (pt_cmpR op_isnot_bl (pe_call C_is_code.g hr (by rfl) C_is_code.m C_is_code.k C_is_code.b .nil pass0 (pa_cons (pv 1) (pa_cons (pv 2) pa_nil))) pe_bl (nomark _)) (pw_or1 (pt_not (pt_val (pe_call C__law_holds.g hr (by rfl) C__law_holds.m C__law_holds.k C__law_holds.b .nil pass0 (pa_cons (pv 0) (pa_cons (pv 2) pa_nil)))))))) (pss_one (ps_ret pe_bl)) pss_nil)
      (pss_one (ps_ret (pe_cmpR op_is_bl (pe_call C_code_holds.g hr (by rfl) C_code_holds.m C_code_holds.k C_code_holds.b .nil pass0 (pa_cons (pv 0) (pa_cons (pv 1) (pa_cons (pv 2) pa_nil)))) pe_bl (nomark _))))))), ?_⟩
    refine ⟨.ref r, rfl, .int hh, rfl, r, hh, some ws, rfl, h3, h20, hR, fun h => absurd nk (h ws rfl), fun ws' e nk' H1 t us os x1 ht pu lo ll => ?_⟩
    cases e
    have hR1 := hR.ex x1
    have T1' := hT.ex x1
    have hdp : Dp K H1 (.ref t) (.tuple (os.map orD)) := .tup ht (or_dps pu)
    refine ⟨.ref t, rfl, .ref t, .ty "tuple", .type "tuple", .type "tuple", true, rfl, .ty "tuple", dp_ty hdp, kit_ty (by decide +kernel), _, rfl, iteF ?_⟩
    refine ⟨.ref t, rfl, t, rfl, ⟨_, ht⟩, fun D nD => ?_⟩
    obtain ⟨yD, hD⟩ := nw46 (o := .lst []) nD
    refine lc_it (walk_tup (K := K) (a := t) (xs := us)) (fun i H3 => H3 D = some (.lst []) ∧ Ex [] H1 H3) ⟨hD, yD⟩ (fun i H3 _ h => h.2.seqT ht) ?_ ?_
    · rintro i v9 H0 H3 hi ⟨hD3, x3⟩ ⟨rfl, hx⟩
      obtain ⟨o9, ho9, hv9⟩ := pu.getL hx
      have mo := List.mem_of_getElem? ho9
      exact ⟨rfl, v9, rfl, .int hh, rfl, v9, hh, o9, rfl, Tp.ex (e := x3) hv9, lo.g o9 mo, lo.d o9 mo, fun H4 x4 => ⟨_, rfl, iteF ⟨x4.lst hD3, x3.trans x4⟩⟩⟩
    rintro H3 ⟨hD3, x3⟩
    refine ⟨Nat.zero_le _, fun N nN => ?_⟩
    obtain ⟨yN, hN⟩ := nw46 (o := .lst []) nN
    refine ⟨D, N, [], rfl, rfl, .of (yN.lst hD3), .of hN, _, rfl, iteF ?_⟩
    have x14 := x3.trans yN
    have T4' := T1'.ex x14
    have pu4 : P2 (OrH K _) us os := pu.imp fun _ _ h => Tp.ex (e := x14) h
    have ht4 := x14.seqT ht
    have kdk := code_dk (os := os) (by omega) lo.g
    have hR4 := hR1.ex x14
    generalize upd H3 N (.lst []) = H4 at yN hN x14 T4' pu4 ht4 hR4 ⊢
    have x04 := x1.trans x14
    refine ⟨.int hh, rfl, .ref t, rfl, hh, .ref t, .tuple (os.map orD), rfl, .tup ht4 (or_dps pu4), kdk, T4'.1, T4'.2.1, T4'.2.2.1, fun H5 x5 => ?_⟩
    rw [code_all lo.g lo.d]
    refine ⟨_, _, rfl, rfl, _, rfl, iteF ?_⟩
    obtain ⟨xs, B, Wn, hs, t6, t5, hw, hwd, hpo, hwl⟩ := hR4
    have str : ∀ W ∈ ws, StrW W := fun W hW => (hwd W hW).str hpo
    have kd : ∀ W ∈ ws, KdW true W := fun W hW => (hwd W hW).kd
    refine ⟨.ref r, rfl, .ref t, rfl, r, t, xs, us, ws, os, rfl, .inl (x5.seqT hs), hw.imp fun _ _ h => WoH.ex x5 h, kd, str, by omega, .inl (x5.seqT ht4), pu4.imp fun _ _ h => Tp.ex (e := x5) h, fun o ho => (lo.g o ho).2.1, by omega, fun H6 x6 => ?_⟩
    rw [holds_laid lo]
    refine ⟨_, rfl, iteF ?_⟩
    have x46 := x5.trans x6
    have T6' := T4'.ex x46
    refine ⟨.ref r, rfl, .int hh, rfl, .ref t, rfl, r, hh, .ref t, .tuple (os.map orD), xs, ws, rfl, .tup (x46.seqT ht4) (or_dps (pu4.imp fun _ _ h => Tp.ex (e := x46) h)), kdk, T6'.1, T6'.2.1, T6'.2.2.1, T6'.2.2.2, x46.seqT hs, hw.imp fun _ _ h => WoH.ex x46 h, kd, str, by omega, .inr ⟨os, code_all lo.g lo.d, .tup (x46.seqT ht4) (or_tps (pu4.imp fun _ _ h => Tp.ex (e := x46) h)), by omega, fun o ho => (lo.g o ho).2.1, fun H7 x7 => ?_⟩⟩
    rw [holds_laid lo]
    refine ⟨true, true, rfl, rfl, ?_⟩
    show Q (.bl (decide (true = true))) H7
    rw [decide_eq_true rfl]
    exact q H7 (x04.trans (x46.trans x7))
end
end K48

set_option maxHeartbeats 8000000
set_option pp.maxSteps 400
set_option pp.deepTerms false
namespace K48
open PySem PySem.Spec PyProof.Rows L2 Kk RZ
abbrev s_spread : Stmt := topS 50
abbrev n_spread : List Str := ["_law_state", "_law_letters", "_law_names", "_law_row_here", "_law_k", "_law_many", "_law_word", "_law_j"]
theorem sc_spread : FnScope n_spread ["_law_state"] (defScope s_spread) := ⟨rfl, rfl, rfl, by decide +kernel, rfl, by decide +kernel, by decide +kernel⟩
abbrev s_law : Stmt := topS 51
abbrev n_law : List Str := ["_law_script", "_law_k", "_law_state", "_law_row_here", "_law_hands"]
theorem sc_law : FnScope n_law ["_law_script"] (defScope s_law) := ⟨rfl, rfl, rfl, by decide +kernel, rfl, by decide +kernel, by decide +kernel⟩
theorem pe_popK {X : Cx} {K : PySem.W.Frag} (h : X.K = K) {o : Expr} {to : TE} {apos cpos : Pos} (ho : PE X o to) (hbase : attributeBase o ("pop" : Str) X.env (eval o X.env) = eval o X.env := by rfl)
    (hline : (apos.endLine == cpos.line) = true := by rfl) : PE X (.Call (.Attribute o ("pop" : Str) apos) [] [] cpos) (tBM0 K "list" rPop to) := by
  subst h
  exact pe_bm0 PySem.F.plainAttrs_list PySem.F.slot_list_pop PySem.F.type_list_pop mt_pop ho hbase hline
/-! words that keep nothing -/
def noT : Wo → Bool
  | .take _ _ => false
  | _ => true
theorem runK_noT : ∀ {ws : List Wo} {f : Bx → Bool}, (∀ W ∈ ws, noT W = true) → (∀ b, f b = false) → ∀ b, runK f ws b = false
  | [], _, _, h => h
  | W :: r, f, hw, h => by
    refine runK_noT (ws := r) (f := stepK f W) (fun V hV => hw V (List.mem_cons_of_mem _ hV)) fun b => ?_
    have hW := hw W List.mem_cons_self
    show (if b = boxW W ∧ isTell W = false then kW f W else f b) = false
    split
    · cases W with
      | take _ _ => cases hW
      | copy b c => exact h c
      | mix b c d => show (f c || f d) = false; rw [h, h]; rfl
      | _ => rfl
    · exact h b
section
variable {P : Program} {w : World} {K : PySem.W.Frag} {mg : Str → Option Value} {base : Heap}
def spSpread (K : PySem.W.Frag) : Sp := fun vs H Q _ => ∃ d : Addr, vs = [.ref d] ∧ St2 H d ∧ ∀ H' p us (ws : List Wo) (B : List Str), Ex [d] H H' → St2 H' d → SqT K H' p us → P2 (WoH K H') us ws → (∀ W ∈ ws, WdR B [] W) → ws.length ≤ 59 → NoK ws → Q (.ref p) H'
theorem ok_spread {f f1 : Addr} {fd d1 : FuncData} {k : Nat} (F : Fun K "_law_spread" "_law_spread" s_spread f fd) (C__law_draw : Cl P w K mg base k "_law_draw" ["_law_state", "_law_many"] spDraw f1 d1) (m_range : mg "range" = none) (m_tuple : mg "tuple" = none) : FnOk P w K mg base CX0 (k + 1) f fd ["_law_state"] (spSpread K) := by
  refine F.ok sc_spread (fun vs H Q E h => ?_) (fun cdv A outer s H vs Q E hr h => ?_)
  · obtain ⟨d, rfl, _⟩ := h; rfl
  · obtain ⟨d, rfl, hD, q⟩ := h
    refine ⟨_, (pss_cons (ps_set (i := 1) sc_spread.nd rfl (.inr rfl) pe_str)
      (pss_cons (ps_set (i := 2) sc_spread.nd rfl (.inr rfl) (pe_lc (own := [("_law_k", 4)]) (g := gName 4) (tt := tYes) rfl sc_spread.nd (pi_range1 (by rfl) m_range (pa_cons pe_int pa_nil)) (blkOk_by (N := n_spread) (sc := defScope s_spread) (by decide +kernel)) (fun _ _ _ _ _ => pg_name (i := 4) sc_spread.nd rfl (Or.inl rfl)) (fun _ _ _ _ _ => pts_nil) (fun _ _ _ _ _ => (pe_op op_add_str (pe_op op_add_str pe_str (pe_ix ix_str (pv 1) (pe_op op_fdiv (pv 4) pe_int) (fun _ _ => rfl))) (pe_ix ix_str (pv 1) (pe_op op_mod (pv 4) pe_int) (fun _ _ => rfl))))))
      (pss_cons (ps_set (i := 3) sc_spread.nd rfl (.inl rfl) (pe_lst pa_nil))
      (pss_cons (ps_for PassesOwn.never rfl (pi_range1 (by rfl) m_range (pa_cons (pe_op op_add pe_int (pe_call C__law_draw.g hr (by rfl) C__law_draw.m C__law_draw.k C__law_draw.b .nil pass0 (pa_cons (pv 0) (pa_cons pe_int pa_nil)))) pa_nil)) (pg_name (i := 4) sc_spread.nd rfl (.inl rfl)) (pss_cons (ps_set (i := 5) sc_spread.nd rfl (.inl rfl) (pe_ix ix_list (pe_lst (pa_cons pe_int (pa_cons pe_int (pa_cons pe_int (pa_cons pe_int pa_nil))))) (pe_call C__law_draw.g hr (by rfl) C__law_draw.m C__law_draw.k C__law_draw.b .nil pass0 (pa_cons (pv 0) (pa_cons pe_int pa_nil))) (fun _ _ => rfl)))
      (pss_cons (ps_set (i := 6) sc_spread.nd rfl (.inl rfl) (pe_ix ix_list (pe_lst (pa_cons (pe_ix ix_list (pe_lst (pa_cons pe_str (pa_cons pe_str pa_nil))) (pe_call C__law_draw.g hr (by rfl) C__law_draw.m C__law_draw.k C__law_draw.b .nil pass0 (pa_cons (pv 0) (pa_cons pe_int pa_nil))) (fun _ _ => rfl)) (pa_cons pe_str pa_nil))) (pe_op op_sub (pv 5) pe_int) (fun _ _ => rfl)))
      (pss_one (ps_expr (pe_bm PySem.F.plainAttrs_list PySem.F.slot_list_append PySem.F.type_list_append mt_append (pv 3) (pa_cons (pe_op (op_catG (K := K) rfl) (pe_tup (pa_cons (pv 6) pa_nil)) (pe_callTy call_tuple_of (by rfl) m_tuple (by decide +kernel) (pa_cons (pe_lc (own := [("_law_j", 7)]) (g := gName 7) (tt := tYes) rfl sc_spread.nd (pi_range1 (by rfl) m_range (pa_cons (pv 5) pa_nil)) (blkOk_by (N := n_spread) (sc := defScope s_spread) (by decide +kernel)) (fun _ _ _ _ _ => pg_name (i := 7) sc_spread.nd rfl (Or.inl rfl)) (fun _ _ _ _ _ => pts_nil) (fun _ _ _ _ _ => (pe_popK (K := K) rfl (pv 2)))) pa_nil))) pa_nil)))))))
      (pss_one (ps_ret (pe_callTy call_tuple_of (by rfl) m_tuple (by decide +kernel) (pa_cons (pe_op op_cat (pv 3) (pe_lst (pa_cons (pe_tup (pa_cons pe_str (pa_cons (pe_ix ix_tup (pe_ix ix_list (pv 3) (pe_un un_neg pe_int) (fun _ _ => rfl)) pe_int (fun _ _ => rfl)) pa_nil))) pa_nil))) pa_nil)))))))), ?_⟩
    refine ⟨120, rfl, by decide, by decide, fun N nN => ?_⟩
    obtain ⟨yN, hN⟩ := nw46 (o := .lst []) nN
    have Nd : N ≠ d := hD.ne nN
    refine lc_range (lo := 0) (n := (120 : Int).toNat) (fun i H2 => ∃ zs : List Str, H2 N = some (.lst (zs.map V.str)) ∧ zs.length = i ∧ Ex [] H H2) ⟨[], hN, rfl, yN⟩ ?_ ?_
    · rintro i H2 hi ⟨zs, hN2, lz, x2⟩
      have hi : i < 120 := hi
      obtain ⟨c1, e1, _⟩ := abc_at ((0 + (i : Int)) / 26) (by omega) (by omega)
      obtain ⟨c2, e2, _⟩ := abc_at ((0 + (i : Int)) % 26) (by omega) (by omega)
      refine ⟨rfl, tyes_if ?_⟩
      refine ⟨.str abc, rfl, .int (0 + (i : Int)), rfl, 0 + (i : Int), 26, rfl, rfl, ⟨by decide, by decide⟩, abc, _, c1, rfl, rfl, by decide, e1, Str.ofString "q", sg c1, rfl, rfl, Nat.le_trans (show 2 ≤ 3 by decide) (by decide), ?_⟩
      refine ⟨.str abc, rfl, .int (0 + (i : Int)), rfl, 0 + (i : Int), 26, rfl, rfl, (by show (0 : Int) < 26; decide), abc, _, c2, rfl, rfl, by decide, e2, Str.ofString "q" ++ sg c1, sg c2, rfl, rfl, ?_, ?_⟩
      · rw [Str.length_append]
        exact Nat.le_trans (show 2 + 1 ≤ 3 by decide) (by decide)
      · refine ⟨_, hN2, by rw [List.length_map, lz]; exact Nat.lt_of_lt_of_le hi (by decide), zs ++ [Str.ofString "q" ++ sg c1 ++ sg c2], by rw [upd_same, List.map_append]; rfl, by rw [List.length_append, lz]; rfl, Ex.own nN x2 (.put hN2 nt_lst (by simp))⟩
    rintro H2 ⟨zs, hN2, lz, x2⟩
    have lz : zs.length = 120 := lz
    have D2 := hD.ex x2 (by simp)
    refine ⟨Nat.zero_le _, fun R nR => ?_⟩
    obtain ⟨yR, hR⟩ := nw46 (o := .lst []) nR
    have Rd : R ≠ d := D2.ne nR
    have NR : N ≠ R := ne_of_none hN2 nR
    have D3 := D2.ex yR (by simp)
    have hN3 := yR.lst hN2
    have x3 := x2.trans yR
    have nR0 : H R = none := x2.f _ nR
    generalize upd H2 R (.lst []) = H3 at yR hR D3 hN3 x3 ⊢
    refine ⟨.ref d, rfl, d, 9, rfl, D3, by decide, by decide, fun H4 mm m0 m1 x4 D4 => ⟨31, mm, rfl, rfl, ?_⟩⟩
    have x04 : Ex [d] H H4 := x3.nil.trans x4
    refine ⟨31 + mm, rfl, by omega, by omega, for_range (lo := 0) (n := (31 + mm).toNat) (fun i σ H5 => ∃ (y4 y5 y6 : Option V) (us : List V) (ws : List Wo) (m : Nat), σ = [some (.ref d), some (.str abc), some (.ref N), some (.ref R), y4, y5, y6, none] ∧ H5 N = some (.lst ((zs.take m).map V.str)) ∧ 120 ≤ m + 3 * i ∧ m ≤ 120 ∧ H5 R = some (.lst us) ∧ P2 (WoH K H5) us ws ∧ (∀ W ∈ ws, WdR zs [] W ∧ noT W = true ∧ isTell W = false) ∧ ws.length = i ∧ Ex [d, N, R] H4 H5 ∧ St2 H5 d) ?_ ?_ ?_⟩
    · exact ⟨_, _, _, [], [], 120, rfl, by rw [List.take_of_length_le (by omega)]; exact x4.lst hN3 (by simpa using Nd), by omega, Nat.le_refl _, x4.lst hR (by simpa using Rd), .nil, by simp, rfl, .refl, D4⟩
    · rintro i σ H5 hi ⟨y4, y5, y6, us, ws, m, rfl, hN5, hm1, hm2, hR5, p5, w5, l5, x5, D5⟩
      have hi : i < 39 := by omega
      refine ⟨(by show 4 ≤ sizeLine; decide), fun M nM => ?_⟩
      obtain ⟨yM, hM⟩ := nw46 (o := .lst [V.int 2, .int 2, .int 3, .int 3]) nM
      have D6 := D5.ex yM (by simp)
      have Md : M ≠ d := D5.ne nM
      refine ⟨.ref d, rfl, d, 4, rfl, D6, by decide, by decide, fun H7 v v0 v1 x7 D7 => ?_⟩
      obtain ⟨y, ey, my⟩ : ∃ y : Nat, atI [V.int 2, .int 2, .int 3, .int 3] v = some (.int y) ∧ (y = 2 ∨ y = 3) := by
        have c : v = 0 ∨ v = 1 ∨ v = 2 ∨ v = 3 := by omega
        rcases c with rfl | rfl | rfl | rfl
        · exact ⟨2, at0, .inl rfl⟩
        · exact ⟨2, at1, .inl rfl⟩
        · exact ⟨3, atI_nat (j := 2) rfl, .inr rfl⟩
        · exact ⟨3, atI_nat (j := 3) rfl, .inr rfl⟩
      refine ⟨M, _, v, .int y, rfl, rfl, .of (x7.lst hM (by simpa using Md)), ey, ?_⟩
      refine ⟨(by show 2 ≤ sizeLine; decide), fun M2 nM2 => ?_⟩
      obtain ⟨yM2, hM2⟩ := nw46 (o := .lst [V.str (Str.ofString "copy"), .str (Str.ofString "open")]) nM2
      have D8 := D7.ex yM2 (by simp)
      have M2d : M2 ≠ d := D7.ne nM2
      refine ⟨.ref d, rfl, d, 2, rfl, D8, by decide, by decide, fun H9 g g0 g1 x9 D9 => ?_⟩
      obtain ⟨kw, ekw, mkw⟩ : ∃ kw : Str, atI [V.str (Str.ofString "copy"), .str (Str.ofString "open")] g = some (.str kw) ∧ (kw = Str.ofString "copy" ∨ kw = Str.ofString "open") := by
        have c : g = 0 ∨ g = 1 := by omega
        rcases c with rfl | rfl
        · exact ⟨_, at0, .inl rfl⟩
        · exact ⟨_, at1, .inr rfl⟩
      refine ⟨M2, _, g, .str kw, rfl, rfl, .of (x9.lst hM2 (by simpa using M2d)), ekw, (by show 2 ≤ sizeLine; decide), fun M3 nM3 => ?_⟩
      obtain ⟨yM3, hM3⟩ := nw46 (o := .lst [V.str kw, .str (Str.ofString "mix")]) nM3
      obtain ⟨wd, ewd, mwd⟩ : ∃ wd : Str, atI [V.str kw, .str (Str.ofString "mix")] ((y : Int) - 2) = some (.str wd) ∧ ((y = 2 ∧ (wd = Str.ofString "copy" ∨ wd = Str.ofString "open")) ∨ (y = 3 ∧ wd = Str.ofString "mix")) := by
        rcases my with rfl | rfl
        · exact ⟨kw, at0, .inl ⟨rfl, mkw⟩⟩
        · exact ⟨_, at1, .inr ⟨rfl, rfl⟩⟩
      refine ⟨.int y, rfl, y, 2, rfl, rfl, M3, _, _, .str wd, rfl, rfl, .of hM3, ewd, ?_⟩
      have x510 : Ex [d] H5 (upd H9 M3 (.lst [V.str kw, .str (Str.ofString "mix")])) := (((yM.nil.trans x7).trans yM2.nil).trans x9).trans yM3.nil
      have D10 := D9.ex yM3 (by simp)
      have hN10 := x510.lst hN5 (by simpa using Nd)
      have hR10 := x510.lst hR5 (by simpa using Rd)
      have p10 := p5.imp fun _ _ h => WoH.ex x510 h
      generalize upd H9 M3 (.lst [V.str kw, .str (Str.ofString "mix")]) = H10 at yM3 hM3 x510 D10 hN10 hR10 p10 ⊢
      refine ⟨.ref R, rfl, .inl ⟨rfl, _, .of hR10⟩, .str wd, rfl, (by show 1 ≤ sizeLine; decide), fun t1 nt1 => ?_⟩
      obtain ⟨y11, h11⟩ := nw46 (o := .tup [V.str wd]) nt1
      have hN11 := y11.lst hN10
      generalize hH11 : upd H10 t1 (.tup [V.str wd]) = H11 at y11 h11 hN11 ⊢
      refine ⟨.int y, rfl, y, rfl, by omega, by omega, fun L nL => ?_⟩
      obtain ⟨yL, hL⟩ := nw46 (o := .lst []) nL
      have NL : N ≠ L := ne_of_none hN11 nL
      refine lc_range (lo := 0) (n := ((y : Nat) : Int).toNat) (fun j H12 => ∃ bs : List Str, H12 L = some (.lst (bs.map V.str)) ∧ bs.length = j ∧ (∀ z ∈ bs, z ∈ zs) ∧ H12 N = some (.lst ((zs.take (m - j)).map V.str)) ∧ Ex [N, L] (upd H11 L (.lst [])) H12) ⟨[], hL, rfl, by simp, yL.lst hN11, .refl⟩ ?_ ?_
      · rintro j H12 hj ⟨bs, hL12, lb, mb, hN12, x12⟩
        have hj : j < y := hj
        have mj : 0 < m - j := by omega
        have lt' : (zs.take (m - j)).length = m - j := by rw [List.length_take]; omega
        obtain ⟨z, hz⟩ : ∃ z, (zs.take (m - j))[m - j - 1]? = some z := ⟨_, List.getElem?_eq_getElem (by omega)⟩
        have mz : z ∈ zs := List.mem_of_mem_take (List.mem_of_getElem? hz)
        refine ⟨rfl, tyes_if ?_⟩
        refine ⟨.ref N, rfl, .inl ⟨rfl, _, .of hN12⟩, N, _, .str z, rfl, rfl, hN12, by rw [List.length_map, lt', List.getElem?_map, hz]; rfl, ?_⟩
        have xp : Ex [N] H12 (upd H12 N (.lst ((zs.take (m - j)).map V.str).dropLast)) := .put hN12 nt_lst (by simp)
        have hL13 := xp.lst hL12 (by simpa using NL.symm)
        have hN13 : (upd H12 N (.lst ((zs.take (m - j)).map V.str).dropLast)) N = some (.lst ((zs.take (m - (j + 1))).map V.str)) := by
          rw [upd_same, ← List.map_dropLast, List.dropLast_eq_take, List.take_take, lt', show min (m - j - 1) (m - j) = m - (j + 1) by omega]
        have xq : Ex [L] (upd H12 N (.lst ((zs.take (m - j)).map V.str).dropLast)) (upd (upd H12 N (.lst ((zs.take (m - j)).map V.str).dropLast)) L (.lst (bs.map V.str ++ [.str z]))) := .put hL13 nt_lst (by simp)
        refine ⟨_, hL13, by rw [List.length_map, lb]; exact Nat.lt_of_lt_of_le (show j < 3 by omega) (by decide), bs ++ [z], by rw [upd_same, List.map_append]; rfl, by rw [List.length_append, lb]; rfl, fun x hx => ?_, xq.lst hN13 (by simpa using NL), x12.trans ((xp.mono (by simp)).trans (xq.mono (by simp)))⟩
        rcases List.mem_append.mp hx with n | n
        · exact mb x n
        · rw [List.mem_singleton.mp n]; exact mz
      rintro H12 ⟨bs, hL12, lb, mb, hN12, x12⟩
      have lb : bs.length = y := lb
      have hN12 : H12 N = some (.lst ((zs.take (m - y)).map V.str)) := hN12
      have x1112 : Ex [N] H11 H12 := ex_onto (fun z hz => by
        simp only [List.mem_cons, List.not_mem_nil, or_false] at hz
        rcases hz with rfl | rfl
        · exact .inl (by simp)
        · exact .inr nL) yL.nil x12
      refine ⟨L, _, rfl, .inl ⟨.of hL12, fun t2 nt2 => ?_⟩⟩
      obtain ⟨y13, h13⟩ := nw46 (o := .tup (bs.map V.str)) nt2
      refine ⟨t1, t2, _, _, rfl, rfl, .of ((x1112.trans y13.nil).tup h11), .of h13, Nat.le_trans (show [V.str wd].length + (bs.map V.str).length ≤ 10 by rw [List.length_map, lb]; show 1 + y ≤ 10; omega) (by decide), fun t3 H14 x14 ht3 => ?_⟩
      have x1014 : Ex [N] H10 H14 := (y11.nil.trans x1112).trans (y13.trans x14).nil
      have hR14 := x1014.lst hR10 (by simpa using NR.symm)
      have hN14 := (y13.trans x14).lst hN12
      have D14 := D10.ex x1014 (by simpa using Nd.symm)
      obtain ⟨W, hW, wW, nW, tW⟩ : ∃ W, WoH K H14 (.ref t3) W ∧ WdR zs [] W ∧ noT W = true ∧ isTell W = false := by
        rcases mwd with ⟨rfl, mw⟩ | ⟨rfl, rfl⟩
        · match bs, lb with
          | [a, b], _ =>
            rcases mw with rfl | rfl
            · exact ⟨.copy (.s a) (.s b), ⟨t3, _, rfl, ht3, _, _, rfl, rfl, rfl⟩, ⟨⟨a, mb a (by simp), rfl⟩, b, mb b (by simp), rfl⟩, rfl, rfl⟩
            · exact ⟨.opn (.s a) (.s b), ⟨t3, _, rfl, ht3, _, _, rfl, rfl, rfl⟩, ⟨⟨a, mb a (by simp), rfl⟩, b, mb b (by simp), rfl⟩, rfl, rfl⟩
        · match bs, lb with
          | [a, b, c], _ => exact ⟨.mix (.s a) (.s b) (.s c), ⟨t3, _, rfl, ht3, _, _, _, rfl, rfl, rfl, rfl⟩, ⟨⟨a, mb a (by simp), rfl⟩, ⟨b, mb b (by simp), rfl⟩, c, mb c (by simp), rfl⟩, rfl, rfl⟩
      have lus : us.length = ws.length := p5.len
      have xp : Ex [R] H14 (upd H14 R (.lst (us ++ [.ref t3]))) := .put hR14 nt_lst (by simp)
      refine ⟨R, us, .ref t3, rfl, rfl, hR14, Nat.lt_of_lt_of_le (show us.length < 100 by omega) (by decide), ?_⟩
      refine ⟨_, _, _, us ++ [.ref t3], ws ++ [W], m - y, rfl, xp.lst hN14 (by simpa using NR), by omega, by omega, upd_same, ((p10.imp fun _ _ h => WoH.ex x1014 h).app (.cons hW .nil)).imp fun _ _ h => WoH.ex xp h, fun V hV => ?_, by rw [List.length_append, l5]; rfl, ((x5.trans (x510.mono (by simp))).trans (x1014.mono (by simp))).trans (xp.mono (by simp)), D14.ex xp (by simpa using Rd.symm)⟩
      rcases List.mem_append.mp hV with n | n
      · exact w5 V n
      · rw [List.mem_singleton.mp n]; exact ⟨wW, nW, tW⟩
    · rintro σ H5 ⟨y4, y5, y6, us, ws, m, rfl, hN5, hm1, hm2, hR5, p5, w5, l5, x5, D5⟩
      have lus : us.length = ws.length := p5.len
      have l31 : 31 ≤ ws.length := by omega
      obtain ⟨v9, hv9⟩ : ∃ v, us[us.length - 1]? = some v := ⟨_, List.getElem?_eq_getElem (by omega)⟩
      obtain ⟨W9, hW9, hx9⟩ := p5.getL hv9
      obtain ⟨wW, nW, tW⟩ := w5 W9 (List.mem_of_getElem? hW9)
      obtain ⟨a9, wxs, rfl, hs9, hwx⟩ := id hx9
      obtain ⟨k9, v8, r9, rfl, hb9⟩ := hwx.box
      obtain ⟨z9, mz9, ez9⟩ := wW.all _ List.mem_cons_self
      rw [ez9] at hb9
      obtain rfl : v8 = .str z9 := hb9
      have eat : atI us (-1) = some (.ref a9) := by
        have e1 : us = us.take (us.length - 1) ++ [V.ref a9] := by
          have h1 := List.take_append_drop (us.length - 1) us
          have h2 : us.drop (us.length - 1) = [V.ref a9] := by
            rw [List.drop_eq_getElem_cons (show us.length - 1 < us.length by omega), show us.length - 1 + 1 = us.length by omega, List.drop_length]
            rw [List.getElem?_eq_getElem (show us.length - 1 < us.length by omega)] at hv9
            rw [Option.some.inj hv9]
          rw [h2] at h1; exact h1.symm
        rw [e1]
        exact atI_last _ _
      refine ⟨.ref R, rfl, .ref R, rfl, 1, rfl, R, us, -1, .ref a9, rfl, rfl, .of hR5, eat, a9, _, 1, .str z9, rfl, rfl, hs9, at1, (by show 2 ≤ sizeLine; decide), fun t9 nt9 => ?_⟩
      obtain ⟨y9, h9⟩ := nw46 (o := .tup [V.str (Str.ofString "tell"), .str z9]) nt9
      refine ⟨(by show 1 ≤ sizeLine; decide), fun s9 ns9 => ?_⟩
      obtain ⟨y10, h10⟩ := nw46 (o := .lst [V.ref t9]) ns9
      refine ⟨R, s9, us, _, rfl, rfl, (y9.trans y10).lst hR5, h10, Nat.le_trans (show us.length + 1 ≤ 100 by omega) (by decide), fun R2 nR2 => ?_⟩
      obtain ⟨y11, h11⟩ := nw46 (o := .lst (us ++ [V.ref t9])) nR2
      refine ⟨R2, _, rfl, .inl ⟨.of h11, fun t nt => ?_⟩⟩
      obtain ⟨y12, h12⟩ := nw46 (o := .tup (us ++ [V.ref t9])) nt
      have x512 := ((y9.trans y10).trans y11).trans y12
      refine q _ t _ (ws ++ [.tell (.s z9)]) zs (ex_onto (fun z hz => ?_) x04 (x5.trans x512.nil)) (D5.ex x512 (by simp)) (.of h12) ((p5.imp fun _ _ h => WoH.ex x512 h).app (.cons (show WoH K _ (.ref t9) (.tell (.s z9)) from ⟨t9, _, rfl, .of (((y10.trans y11).trans y12).tup h9), _, rfl, rfl⟩) .nil)) (fun V hV => ?_) (by rw [List.length_append, List.length_singleton]; omega) (runK_noT (fun V hV => ?_) fun _ => rfl)
      · simp only [List.mem_cons, List.not_mem_nil, or_false] at hz
        rcases hz with rfl | rfl | rfl
        · exact .inl (by simp)
        · exact .inr nN
        · exact .inr nR0
      · rcases List.mem_append.mp hV with n | n
        · exact (w5 V n).1
        · rw [List.mem_singleton.mp n]; exact ⟨z9, mz9, rfl⟩
      · rcases List.mem_append.mp hV with n | n
        · exact (w5 V n).2.1
        · rw [List.mem_singleton.mp n]; rfl
def Tail9 (K : PySem.W.Frag) (H : Hp) (p r T1 T3 T4 T5 T6 : Addr) (ws : List Wo) : Prop := St2 H p ∧ RowIn K T5 T6 H r (some ws) ∧ NoK ws ∧ Tabs H T1 T3 T4 T5
def spLaw (K : PySem.W.Frag) (T1 T3 T4 T5 T6 : Addr) : Sp := fun vs H Q _ => ∃ (s : Addr) (ns : List Int), vs = [.ref s] ∧ SqL K H s (ns.map V.int) ∧ ns.length ≤ 63 ∧ Tabs H T1 T3 T4 T5 ∧ GxR.TabG H T6 ∧ ∀ H', Q (.bl true) H'
theorem ok_law {f f1 f2 f3 f4 f5 f6 T1 T3 T4 T5 T6 : Addr} {fd d1 d2 d3 d4 d5 d6 : FuncData} {k : Nat} (F : Fun K "law" "law" s_law f fd)
    (C__law_begin : Cl P w K mg base k "_law_begin" ["_law_cell"] spBegin f1 d1) (C__law_cell_at : Cl P w K mg base k "_law_cell_at" ["_law_script", "_law_k"] (spCell K) f2 d2)
    (C__law_draw : Cl P w K mg base k "_law_draw" ["_law_state", "_law_many"] spDraw f3 d3) (C__law_row : Cl P w K mg base k "_law_row" ["_law_state"] (spRow K) f4 d4)
    (C__law_spread : Cl P w K mg base k "_law_spread" ["_law_state"] (spSpread K) f5 d5) (C__law_right : Cl P w K mg base k "_law_right" ["_law_row_here", "_law_hands"] (spRight K T1 T3 T4 T5 T6) f6 d6)
    (m_len : mg "len" = none) (m_range : mg "range" = none) (m_max : mg "max" = none) (m_min : mg "min" = none) : FnOk P w K mg base CX0 (k + 1) f fd ["_law_script"] (spLaw K T1 T3 T4 T5 T6) := by
  refine F.ok sc_law (fun vs H Q E h => ?_) (fun cdv A outer s H vs Q E hr h => ?_)
  · obtain ⟨s, ns, rfl, _⟩ := h; rfl
  · obtain ⟨sc, ns, rfl, hS, hns, hT, hT6, q⟩ := h
    refine ⟨_, (pss_cons (ps_for PassesOwn.never rfl (pi_range1 (by rfl) m_range (pa_cons (pe_callB (call_max2 rfl) (by rfl) m_max (by decide +kernel) (pa_cons pe_int (pa_cons (pe_callB (call_min2 rfl) (by rfl) m_min (by decide +kernel) (pa_cons pe_int (pa_cons (pe_callB call_len_seq (by rfl) m_len PySem.boot_len (pa_cons (pv 0) pa_nil)) pa_nil))) pa_nil))) pa_nil)) (pg_name (i := 1) sc_law.nd rfl (.inl rfl)) (pss_cons (ps_set (i := 2) sc_law.nd rfl (.inl rfl) (pe_call C__law_begin.g hr (by rfl) C__law_begin.m C__law_begin.k C__law_begin.b .nil pass0 (pa_cons (pe_call C__law_cell_at.g hr (by rfl) C__law_cell_at.m C__law_cell_at.k C__law_cell_at.b .nil pass0 (pa_cons (pv 0) (pa_cons (pv 1) pa_nil))) pa_nil)))
      (pss_cons (ps_set (i := 3) sc_law.nd rfl (.inl rfl) (pe_call C__law_row.g hr (by rfl) C__law_row.m C__law_row.k C__law_row.b .nil pass0 (pa_cons (pv 2) pa_nil)))
      (pss_cons (ps_if (pt_cmpR op_eq (pe_call C__law_draw.g hr (by rfl) C__law_draw.m C__law_draw.k C__law_draw.b .nil pass0 (pa_cons (pv 2) (pa_cons pe_int pa_nil))) pe_int (nomark _)) (pss_one (ps_set (i := 3) sc_law.nd rfl (.inl rfl) (pe_call C__law_spread.g hr (by rfl) C__law_spread.m C__law_spread.k C__law_spread.b .nil pass0 (pa_cons (pv 2) pa_nil)))) pss_nil)
      (pss_one (ps_for PassesOwn.never rfl (pi_tup (pe_tup (pa_cons (pe_op op_add pe_int (pe_call C__law_draw.g hr (by rfl) C__law_draw.m C__law_draw.k C__law_draw.b .nil pass0 (pa_cons (pv 2) (pa_cons pe_int pa_nil)))) (pa_cons pe_int pa_nil)))) (pg_name (i := 4) sc_law.nd rfl (.inl rfl)) (pss_one (ps_if (PW.pt (pw_or (pt_not (pt_val (pe_call C__law_right.g hr (by rfl) C__law_right.m C__law_right.k C__law_right.b .nil pass0 (pa_cons (pv 3) (pa_cons (pv 4) pa_nil))))) (pw_or1 (pt_not (pt_val (pe_call C__law_right.g hr (by rfl) C__law_right.m C__law_right.k C__law_right.b .nil pass0 (pa_cons (pv 3) (pa_cons (pv 4) pa_nil)))))))) (pss_one (ps_ret pe_bl)) pss_nil))))))))
      (pss_one (ps_ret pe_bl))), ?_⟩
    generalize hmx : (if (if ((ns.map V.int).length : Int) < 4 then ((ns.map V.int).length : Int) else 4) > 1 then (if ((ns.map V.int).length : Int) < 4 then ((ns.map V.int).length : Int) else 4) else 1) = mx0
    have hm : 0 ≤ mx0 ∧ mx0 < 2 ^ 62 := by
      rw [← hmx]
      split
      · split <;> omega
      · omega
    refine ⟨.ref sc, rfl, sc, _, rfl, .inl hS, 4, _, rfl, 1, _, rfl, mx0, by rw [← hmx], by omega, hm.2, for_range (lo := 0) (n := mx0.toNat) (fun i σ H2 => Ex [] H H2 ∧ ∃ y1 y2 y3 y4, σ = [some (.ref sc), y1, y2, y3, y4]) ⟨.refl, _, _, _, _, rfl⟩ ?_ ?_⟩
    · rintro i σ H2 hi ⟨x2, y1, y2, y3, y4, rfl⟩
      refine ⟨.ref sc, rfl, .int (0 + (i : Int)), rfl, sc, ns, i, by simp, x2.seqL hS, fun n => ⟨n, rfl, fun p H3 np x3 D3 => ?_⟩⟩
      have T3' := hT.ex (x2.trans x3)
      have T36 := (x2.trans x3).t _ hT6
      have tail : ∀ (H6 : Hp) (r : Addr) (us : List V) (ws : List Wo) (B Wn : List Str), Ex [p] H3 H6 → St2 H6 p → SqT K H6 r us → P2 (WoH K H6) us ws → (∀ W ∈ ws, WdR B Wn W) → (∀ s ∈ Wn, PoolOk s) → ws.length ≤ 59 → NoK ws → Tail9 K H6 p r T1 T3 T4 T5 T6 ws := fun H6 r us ws B Wn x D h1 h2 h3 h4 h5 h6 => ⟨D, ⟨us, B, Wn, h1, x.t _ T36, (T3'.ex x).2.2.2, h2, h3, h4, h5⟩, h6, T3'.ex x⟩
      refine ⟨.ref p, rfl, p, rfl, D3, fun H4 r us ws B Wn bl wl pw x4 D4 hr4 hws4 hw4 lw4 nk4 => ?_⟩
      refine ⟨.ref p, rfl, p, 8, rfl, D4, by decide, by decide, fun H5 v v0 v1 x5 D5 => ⟨rfl, _, rfl, ?_⟩⟩
      have x35 := x4.trans x5
      have t5 := tail H5 r us ws B Wn x35 D5 (x5.seqT hr4) (hws4.imp fun _ _ h => WoH.ex x5 h) hw4 pw lw4 nk4
      refine ite2 (fun _ => ?_) fun _ => ?_
      case' refine_1 =>
        refine ⟨.ref p, rfl, p, rfl, D5, fun H6 r6 us6 ws6 B6 x6 D6 hr6 hw6 wd6 l6 nk6 => ?_⟩
        replace t5 := tail H6 r6 us6 ws6 B6 [] (x35.trans x6) D6 hr6 hw6 wd6 (fun s hs => by cases hs) l6 nk6
        replace x35 := x35.trans x6
        clear D5
        generalize H6 = H5 at t5 x35 ⊢
        generalize ws6 = ws at t5 ⊢
        generalize r6 = r at t5 ⊢
      all_goals
        obtain ⟨D5, R5, nk, T5'⟩ := t5
        refine ⟨.ref p, rfl, p, 6, rfl, D5, by decide, by decide, fun H7 v v0 v1 x7 D7 => ⟨3, v, rfl, rfl, (by show 2 ≤ sizeLine; decide), fun t nt => ?_⟩⟩
        obtain ⟨hh, eh⟩ : ∃ hh : Nat, 3 + v = hh := ⟨(3 + v).toNat, by omega⟩
        obtain ⟨yt, ht⟩ := nw46 (o := .tup [(fun i j : Int => V.int (i + j)) 3 v, V.int 3]) nt
        have x58 := x7.trans yt.nil
        have x38 := x35.trans x58
        have D8 := D7.ex yt (by simp)
        have R8 := R5.ex x58
        have T8 := T5'.ex x58
        generalize upd H7 t (.tup [(fun i j : Int => V.int (i + j)) 3 v, V.int 3]) = H8 at yt ht x58 x38 D8 R8 T8 ⊢
        have ht : H8 t = some (.tup [V.int hh, .int 3]) := by rw [← eh]; exact ht
        refine ⟨t, rfl, ⟨_, .of ht⟩, for_tup (K := K) (a := t) (xs := [V.int hh, .int 3]) (fun j σ H9 => Ex [] H8 H9 ∧ ∃ y4', σ = [some (.ref sc), some (.int (0 + (i : Int))), some (.ref p), some (.ref r), y4']) ⟨.refl, _, rfl⟩ (fun j σ H9 _ h => h.1.seqT (.of ht)) ?_ ?_⟩
        · rintro j v9 σ H9 hx ⟨x9, y4', rfl⟩
          obtain ⟨h9, rfl, h93, h98⟩ : ∃ h9 : Nat, v9 = .int h9 ∧ 3 ≤ h9 ∧ h9 ≤ 20 := by
            match j, hx with
            | 0, hx => exact ⟨hh, (Option.some.inj hx).symm, by omega, by omega⟩
            | 1, hx => exact ⟨3, (Option.some.inj hx).symm, by omega, by omega⟩
            | j + 2, hx => cases hx
          refine ⟨.ref r, rfl, .int h9, rfl, r, h9, _, rfl, h93, h98, R8.ex x9, nk, T8.ex x9, fun H10 x10 => ⟨_, rfl, iteF ?_⟩⟩
          refine ⟨.ref r, rfl, .int h9, rfl, r, h9, _, rfl, h93, h98, R8.ex (x9.trans x10), nk, T8.ex (x9.trans x10), fun H11 x11 => ⟨_, rfl, iteF ⟨(x9.trans x10).trans x11, _, rfl⟩⟩⟩
        · rintro σ H9 ⟨x9, y4', rfl⟩
          exact ⟨x2.trans (Ex.own np x3 (x38.trans x9.nil)), _, _, _, _, rfl⟩
    · rintro σ H2 ⟨x2, y1, y2, y3, y4, rfl⟩
      exact q H2
end
end K48

set_option maxHeartbeats 4000000
namespace Kk
open PySem PySem.Spec PyProof.Rows L2
/-- the end of a law; what the top has told is handed on -/
theorem walkT2 {l : PySem.W.OpenLaw} {m lev : Nat} {N : Addr} {q : Program} {loose : List Str} {XP : (Str → Option Value) → Heap → Prop} {YP : World → Heap → Prop} {dr : DefRec} {K : Params → PySem.W.Frag} {x : Str}
    (most : l.most = some m) (small : m ≤ sizeLine) (nodef : dr.params.defaults = []) (room : Room lev callerA) (written : ∀ (w : World) (h : Heap), YP w h → (K w.params).In h ∧ h.get? N = some { cls := .none, data := .fields #[] })
    (F : ∀ (w : World) (mg mb : Str → Option Value) (mean : ExcName → Option Value) (fa : Addr) (h : Heap), (K w.params).In h → h.get? N = some { cls := .none, data := .fields #[] } → PyProof.Rows.Top q (PySem.W.looseW q loose) mean mg mb h → mg dr.name = some (.ref fa) →
      LamX.LawAtS l w (K w.params) CX0 lev m x mg fa h) :
    PySem.W.WalkO q loose XP YP l.row.toRowW dr [] (fun f vs => PySem.call f vs) := by
  refine Att.attach_callB most nodef fun w s0 s1 mg mb fa o pm cd doc a vs ns gr Y ho hd hcd hmg hobj hin hlen hbits hgens => ?_
  obtain ⟨inK, inN⟩ := written w _ Y
  obtain ⟨fd, tabs, sp, tAt, tOut, tHd, bind, prom, ok⟩ := F w mg mb _ fa _ inK inN gr.T hmg
  refine LamX.law_callTs inK gr.T.g gr.T.b gr.T.builtins gr.T.nolimit hgens tAt tOut tHd gr.T.bmain hobj hin (Nat.le_trans hlen small) room ok bind ?_ ?_
  · exact fun H hH hS => prom H a ns hlen hbits hH hS
  · exact fun H e s' z => z
/-- the def's own code table, by where it stands -/
theorem tab_mk {K : PySem.W.Frag} {x : Str} {f c T : Addr} {oc : Value} {od : Option Addr} {fn : FuncData} {sl slc : Array (Option Value)} {occ : Value} {odc : Option Addr} {cvs : Array Value} (a : PySem.W.nsIn K mainGlobals x = some (some (.ref f))) (l : K.lookup f = some ⟨oc, od, .func fn, sl⟩) (hc : fn.code = .ref c)
    (lc : K.lookup c = some ⟨occ, odc, .fields cvs, slc⟩) (v11 : cvs[11]? = some (.ref T)) : PySem.W.tabIn K x = some (c, T) := by
  unfold PySem.W.tabIn
  rw [a]
  simp only [l, hc]
  show (match K.lookup c with | some ⟨_, _, .fields vs, _⟩ => (match (vs[11]? : Option Value) with | some (.ref P) => some (c, P) | _ => none) | _ => none) = some (c, T)
  rw [lc]
  simp only [v11]
end Kk
namespace K48
open PySem PySem.Spec PyProof.Rows L2 Kk RZ
/-- where a def stands -/
structure AtN (K : PySem.W.Frag) (x : Str) (st : Stmt) (f : Addr) (fd : FuncData) : Prop where
  a : PySem.W.nsIn K mainGlobals x = some (some (.ref f))
  F : Fun K x x st f fd
theorem at_mk {K : PySem.W.Frag} {x : Str} {st : Stmt} {f : Addr} {oc : Value} {od an : Option Addr} {sl : Array (Option Value)} {kV doc pm cd ct : Value} (a : PySem.W.nsIn K mainGlobals x = some (some (.ref f)))
    (l : K.lookup f = some ⟨oc, od, .func (PySem.W.fnOf x x (defArgs st) (defBody st) (defScope st) .none kV doc pm an cd ct), sl⟩) (c : PySem.W.codeIn K cd x = true) (k : PySem.W.keepIn K (.ref f) = true) :
    AtN K x st f (PySem.W.fnOf x x (defArgs st) (defBody st) (defScope st) .none kV doc pm an cd ct) := ⟨a, fun_mk l c k⟩
/-- where a def of a class stands -/
structure AtM (K : PySem.W.Frag) (C : Addr) (m x : Str) (st : Stmt) (f : Addr) (fd : FuncData) : Prop where
  a : PySem.W.findIn K (.ref C) m = some (some (.ref f))
  i : PySem.W.isFn K (.ref f) = true
  k : PySem.W.keepIn K (.ref f) = true
  F : Fun K m x st f fd
theorem atM_mk {K : PySem.W.Frag} {C : Addr} {m x : Str} {st : Stmt} {f : Addr} {oc : Value} {od an : Option Addr} {sl : Array (Option Value)} {kV doc pm cd ct : Value} (a : PySem.W.findIn K (.ref C) m = some (some (.ref f))) (i : PySem.W.isFn K (.ref f) = true)
    (l : K.lookup f = some ⟨oc, od, .func (PySem.W.fnOf m x (defArgs st) (defBody st) (defScope st) .none kV doc pm an cd ct), sl⟩) (c : PySem.W.codeIn K cd x = true) (k : PySem.W.keepIn K (.ref f) = true) :
    AtM K C m x st f (PySem.W.fnOf m x (defArgs st) (defBody st) (defScope st) .none kV doc pm an cd ct) := ⟨a, i, k, fun_mk l c k⟩
/-- where a class stands -/
structure AtC (K : PySem.W.Frag) (x : Str) (C : Addr) : Prop where
  a : PySem.W.nsIn K mainGlobals x = some (some (.ref C))
  pg : PySem.W.plainGet K C Str.empty = true
  hd : PySem.W.hasDictIn K C = true
  po : PySem.W.plainOver K C = true
  sa : PySem.W.findIn K (.ref C) "__setattr__" = some (some (.builtin "object.__setattr__"))
  ms : PySem.W.makesIn K C = true
  kc : PySem.W.keepIn K (.ref C) = true
theorem atC_mk {K : PySem.W.Frag} {x : Str} {C : Addr} (a : PySem.W.nsIn K mainGlobals x = some (some (.ref C))) (pg : PySem.W.plainGet K C Str.empty = true) (hd : PySem.W.hasDictIn K C = true) (po : PySem.W.plainOver K C = true) (sa : PySem.W.findIn K (.ref C) "__setattr__" = some (some (.builtin "object.__setattr__"))) (mk : PySem.W.makesIn K C = true) (kc : PySem.W.keepIn K (.ref C) = true) : AtC K x C := ⟨a, pg, hd, po, sa, mk, kc⟩
/-- a tuple of the written part -/
def TuA (K : PySem.W.Frag) (t : Addr) (vs : List V) : Prop := ∃ d its n sl, K.lookup t = some ⟨.type "tuple", d, .seq its n, sl⟩ ∧ its.size ≤ sizeLine ∧ Vals vs its.toList
theorem tuA_mk {K : PySem.W.Frag} {t : Addr} {vs : List V} {d : Option Addr} {its : Array Value} {n : Nat} {sl : Array (Option Value)} (l : K.lookup t = some ⟨.type "tuple", d, .seq its n, sl⟩) (z : its.size ≤ sizeLine) (v : Vals vs its.toList) : TuA K t vs := ⟨d, its, n, sl, l, z, v⟩
theorem TuA.sq {K : PySem.W.Frag} {t : Addr} {vs : List V} (h : TuA K t vs) (H : Hp) : SqT K H t vs := by
  obtain ⟨d, its, n, sl, l, z, v⟩ := h
  exact .inr ⟨_, its, n, l, rfl, rfl, z, v⟩
/-- an order's kinds, where they stand -/
def FmA (K : PySem.W.Frag) (fA : Addr) (k : Str) (ks : List Str) : Prop := ∃ t, PySem.W.nsIn K fA k = some (some (.ref t)) ∧ ∃ d its n sl, K.lookup t = some ⟨.type "tuple", d, .seq its n, sl⟩ ∧ its.size ≤ sizeLine ∧ Vals (ks.map V.str) its.toList
theorem fmA_mk {K : PySem.W.Frag} {fA t : Addr} {k : Str} {ks : List Str} {d : Option Addr} {its : Array Value} {n : Nat} {sl : Array (Option Value)} (a : PySem.W.nsIn K fA k = some (some (.ref t))) (l : K.lookup t = some ⟨.type "tuple", d, .seq its n, sl⟩) (z : its.size ≤ sizeLine) (v : Vals (ks.map V.str) its.toList) : FmA K fA k ks := ⟨t, a, d, its, n, sl, l, z, v⟩
def keyB (e : DictEntry) : Bool := match e.key with
  | .str s _ => decide (s ∈ formT.map (·.1))
  | _ => false
theorem no_mk {K : PySem.W.Frag} {fA : Addr} {es : Array DictEntry} {nE : Nat} (lF : K.lookup fA = some ⟨.type "dict", none, .dict es nE, #[]⟩) (ky : es.toList.all keyB = true) (z : Str) (hz : frm? z = none) : PySem.W.nsIn K fA z = some none := by
  have nz : z ∉ formT.map (·.1) := fun m => by
    obtain ⟨p, hp, rfl⟩ := List.mem_map.mp m
    unfold frm? at hz
    cases e : formT.find? (fun q => q.1 == p.1) with
    | none => exact List.find?_eq_none.mp e p hp (by simp)
    | some q => rw [e] at hz; cases hz
  have hk : ∀ e ∈ es.toList, e.key.isStr z = false ∧ e.refKey = false := fun e he => by
    have := List.all_eq_true.mp ky e he
    unfold keyB at this
    split at this
    · rename_i s t ek
      have ms := of_decide_eq_true this
      refine ⟨?_, ?_⟩
      · rw [ek]
        show (s == z) = false
        cases q : (s == z) with
        | false => rfl
        | true => rw [eq_of_beq q] at ms; exact absurd ms nz
      · unfold DictEntry.refKey
        rw [ek]
    · cases this
  unfold PySem.W.nsIn
  rw [lF]
  show (match es.toList.find? (·.key.isStr z) with | some e => some (some e.val) | none => if es.toList.any (·.refKey) then none else some none) = some none
  have e1 : es.toList.find? (·.key.isStr z) = none := by
    rw [List.find?_eq_none]
    intro e he q
    rw [(hk e he).1] at q; cases q
  have e2 : es.toList.any (·.refKey) = false := by
    rw [List.any_eq_false]
    intro e he q
    rw [(hk e he).2] at q; cases q
  rw [e1, e2]; rfl
theorem all_mk {l : PySem.W.OpenLaw} {w : World} {K : PySem.W.Frag} {q : Program} {loose : List Str} {mean : ExcName → Option Value} {h : Heap} {mg mb : Str → Option Value} {fa fL fA wA pA sA tA CM CT CL CN : Addr} {f0 f1 f2 f3 f4 f5 f6 f7 f8 f9 f10 f11 f12 f13 f14 f15 f16 f17 f18 f19 f20 f21 f22 f23 f24 f25 : Addr} {p0 c0 T0 p1 c1 T1 p2 c2 T2 p3 c3 T3 p4 c4 T4 : Addr} {r0 r1 r2 r3 r4 r5 r6 r7 r8 r9 r10 r11 r12 r13 r14 r15 r16 r17 : Addr}
    {fd0 fd1 fd2 fd3 fd4 fd5 fd6 fd7 fd8 fd9 fd10 fd11 fd12 fd13 fd14 fd15 fd16 fd17 fd18 fd19 fd20 fd21 fd22 fd23 fd24 fd25 rd0 rd1 rd2 rd3 rd4 rd5 rd6 rd7 rd8 rd9 rd10 rd11 rd12 rd13 rd14 rd15 rd16 rd17 : FuncData} {ocL kVL docL pmL cdL ctL : Value} {odL anL dT : Option Addr} {slL slT : Array (Option Value)} {its : Array Value} {nT nE nW : Nat} {es ws : Array DictEntry} {tk1 tk2 tk3 tk4 tw0 tw1 tw2 : Tok}
    {dn0 dn1 dn2 dn3 : DefRec} {oc0 kV0 doc0 pm0 ct0 occ0 oc1 kV1 doc1 pm1 ct1 occ1 oc2 kV2 doc2 pm2 ct2 occ2 oc3 kV3 doc3 pm3 ct3 occ3 oc4 kV4 doc4 pm4 ct4 occ4 : Value} {od0 an0 odc0 od1 an1 odc1 od2 an2 odc2 od3 an3 odc3 od4 an4 odc4 : Option Addr} {sl0 slc0 sl1 slc1 sl2 slc2 sl3 slc3 sl4 slc4 : Array (Option Value)} {cvs0 cvs1 cvs2 cvs3 cvs4 : Array Value}
    (X : K.In h) (top : PyProof.Rows.Top q loose mean mg mb h) (hfa : mg "law" = some (.ref fa)) (inN : h.get? T4 = some { cls := .none, data := .fields #[] })
    (KCM : AtC K "Forms" CM) (nCM_makings : PySem.W.findIn K (.ref CM) "makings" = some none) (nCM_known : PySem.W.findIn K (.ref CM) "known" = some none) (nCM_kept : PySem.W.findIn K (.ref CM) "kept" = some none) (nCM_zero : PySem.W.findIn K (.ref CM) "zero" = some none)
    (KCT : AtC K "Trace" CT) (nCT_forms : PySem.W.findIn K (.ref CT) "forms" = some none) (nCT_boxes : PySem.W.findIn K (.ref CT) "boxes" = some none) (nCT_wanted : PySem.W.findIn K (.ref CT) "wanted" = some none) (nCT_parts : PySem.W.findIn K (.ref CT) "parts" = some none)
    (KCL : AtC K "Laying" CL) (nCL_forms : PySem.W.findIn K (.ref CL) "forms" = some none) (nCL_last : PySem.W.findIn K (.ref CL) "last" = some none) (nCL_hands : PySem.W.findIn K (.ref CL) "hands" = some none) (nCL_slots : PySem.W.findIn K (.ref CL) "slots" = some none) (nCL_orders : PySem.W.findIn K (.ref CL) "orders" = some none)
    (B0 : AtM K CM "keeps" "Forms.keeps" s_keeps r0 rd0)
    (B1 : AtM K CM "made" "Forms.made" s_made r1 rd1)
    (B2 : AtM K CM "__init__" "Forms.__init__" s_finit r2 rd2)
    (B3 : AtM K CT "__init__" "Trace.__init__" s_tinit r3 rd3)
    (B4 : AtM K CT "put" "Trace.put" s_put r4 rd4)
    (B5 : AtM K CT "form_by" "Trace.form_by" s_form_by r5 rd5)
    (B6 : AtM K CT "outer" "Trace.outer" s_outer r6 rd6)
    (B7 : AtM K CL "__init__" "Laying.__init__" s_linit r7 rd7)
    (B8 : AtM K CL "is_number" "Laying.is_number" s_is_number r8 rd8)
    (B9 : AtM K CL "is_due" "Laying.is_due" s_is_due r9 rd9)
    (B10 : AtM K CL "lay" "Laying.lay" s_lay r10 rd10)
    (B11 : AtM K CL "free_hand" "Laying.free_hand" s_free_hand r11 rd11)
    (B12 : AtM K CL "fetch" "Laying.fetch" s_fetch r12 rd12)
    (B13 : AtM K CL "hands_with" "Laying.hands_with" s_hands_with r13 rd13)
    (B14 : AtM K CL "do" "Laying.do" s_do r14 rd14)
    (B15 : AtM K CL "has" "Laying.has" s_has r15 rd15)
    (B16 : AtM K CL "put_in_hand" "Laying.put_in_hand" s_put_in_hand r16 rd16)
    (B17 : AtM K CL "wipe_all" "Laying.wipe_all" s_wipe_all r17 rd17)
    (ga0 : PySem.W.nsIn K mainGlobals "is_name" = some (some (.ref p0))) (gl0 : K.lookup p0 = some ⟨oc0, od0, .func (PySem.W.fnOf "is_name" "is_name" (defArgs sName) (defBody sName) (defScope sName) .none kV0 doc0 pm0 an0 (.ref c0) ct0), sl0⟩) (gc0 : PySem.W.codeIn K (.ref c0) "is_name" = true) (gk0 : PySem.W.keepIn K (.ref p0) = true)
    (rn0 : (recsOf q).find? (fun e => e.name == ("is_name" : Str)) = some dn0)
    (lc0 : K.lookup c0 = some ⟨occ0, odc0, .fields cvs0, slc0⟩) (v11_0 : cvs0[11]? = some (.ref T0)) (tbn0 : K.lookup T0 = none)
    (ga1 : PySem.W.nsIn K mainGlobals "is_order" = some (some (.ref p1))) (gl1 : K.lookup p1 = some ⟨oc1, od1, .func (PySem.W.fnOf "is_order" "is_order" (defArgs s_form) (defBody s_form) (defScope s_form) .none kV1 doc1 pm1 an1 (.ref c1) ct1), sl1⟩) (gc1 : PySem.W.codeIn K (.ref c1) "is_order" = true) (gk1 : PySem.W.keepIn K (.ref p1) = true)
    (rn1 : (recsOf q).find? (fun e => e.name == ("is_order" : Str)) = some dn1)
    (lc1 : K.lookup c1 = some ⟨occ1, odc1, .fields cvs1, slc1⟩) (v11_1 : cvs1[11]? = some (.ref T1)) (tbn1 : K.lookup T1 = none)
    (ga2 : PySem.W.nsIn K mainGlobals "is_code" = some (some (.ref p2))) (gl2 : K.lookup p2 = some ⟨oc2, od2, .func (PySem.W.fnOf "is_code" "is_code" (defArgs s_code) (defBody s_code) (defScope s_code) .none kV2 doc2 pm2 an2 (.ref c2) ct2), sl2⟩) (gc2 : PySem.W.codeIn K (.ref c2) "is_code" = true) (gk2 : PySem.W.keepIn K (.ref p2) = true)
    (rn2 : (recsOf q).find? (fun e => e.name == ("is_code" : Str)) = some dn2)
    (lc2 : K.lookup c2 = some ⟨occ2, odc2, .fields cvs2, slc2⟩) (v11_2 : cvs2[11]? = some (.ref T2)) (tbn2 : K.lookup T2 = none)
    (ga3 : PySem.W.nsIn K mainGlobals "is_straight" = some (some (.ref p3))) (gl3 : K.lookup p3 = some ⟨oc3, od3, .func (PySem.W.fnOf "is_straight" "is_straight" (defArgs s_is_straight) (defBody s_is_straight) (defScope s_is_straight) .none kV3 doc3 pm3 an3 (.ref c3) ct3), sl3⟩) (gc3 : PySem.W.codeIn K (.ref c3) "is_straight" = true) (gk3 : PySem.W.keepIn K (.ref p3) = true)
    (rn3 : (recsOf q).find? (fun e => e.name == ("is_straight" : Str)) = some dn3)
    (lc3 : K.lookup c3 = some ⟨occ3, odc3, .fields cvs3, slc3⟩) (v11_3 : cvs3[11]? = some (.ref T3)) (tbn3 : K.lookup T3 = none)
    (ga4 : PySem.W.findIn K (.ref CT) "keeps_nothing" = some (some (.ref p4))) (gl4 : K.lookup p4 = some ⟨oc4, od4, .func (PySem.W.fnOf "keeps_nothing" "Trace.keeps_nothing" (defArgs s_keepsN) (defBody s_keepsN) (defScope s_keepsN) .none kV4 doc4 pm4 an4 (.ref c4) ct4), sl4⟩) (gc4 : PySem.W.codeIn K (.ref c4) "Trace.keeps_nothing" = true) (gk4 : PySem.W.keepIn K (.ref p4) = true)
    (lc4 : K.lookup c4 = some ⟨occ4, odc4, .fields cvs4, slc4⟩) (v11_4 : cvs4[11]? = some (.ref T4)) (tbn4 : K.lookup T4 = none)
    (gi3 : PySem.W.isFn K (.ref p4) = true) (hd3 : PySem.W.codeHdIn K c4 T4 = true)
    (gST : PySem.W.nsIn K mainGlobals "STRAIGHT" = some (some (.ref sA))) (tST : TuA K sA (strL.map V.str))
    (gNT : PySem.W.nsIn K mainGlobals "NoCode" = some (some (.ref CN))) (xNT : PySem.W.excIn K CN [.type "ValueError", .type "Exception", .type "BaseException", .type "object"] "ValueError.__new__" = true) (kNT : PySem.W.keepIn K (.ref CN) = true) (bNT : PySem.W.subIn K (.ref CN) (.type "BaseException") = some true) (tNT : PySem.W.typeIn K (.ref CN) = some (.type "type"))
    (A0 : AtN K "is_whole" s_is_whole f0 fd0)
    (A1 : AtN K "part_is_right" s_part f1 fd1)
    (A2 : AtN K "choices_of" s_choices f2 fd2)
    (A3 : AtN K "asked_by" s_asked f3 fd3)
    (A4 : AtN K "as_word" s_as f4 fd4)
    (A5 : AtN K "code_holds" s_chold f5 fd5)
    (A6 : AtN K "last_asked" s_last_asked f6 fd6)
    (A7 : AtN K "coded" s_coded f7 fd7)
    (A8 : AtN K "_law_cell_at" s_cell f8 fd8)
    (A9 : AtN K "_law_begin" s_begin f9 fd9)
    (A10 : AtN K "_law_draw" s_draw f10 fd10)
    (A11 : AtN K "_law_form" s_form2 f11 fd11)
    (A12 : AtN K "_law_done" s_done f12 fd12)
    (A13 : AtN K "_law_as_word" s_as_word f13 fd13)
    (A14 : AtN K "_law_holds" s_holds f14 fd14)
    (A15 : AtN K "_law_one" s_one f15 fd15)
    (A16 : AtN K "_law_pool" s_pool f16 fd16)
    (A17 : AtN K "_law_boxes" s_boxes f17 fd17)
    (A18 : AtN K "_law_straight" s_straight f18 fd18)
    (A19 : AtN K "_law_wiped" s_wiped f19 fd19)
    (A20 : AtN K "_law_wide" s_wide f20 fd20)
    (A21 : AtN K "_law_row" s_row f21 fd21)
    (A22 : AtN K "_law_is_below" s_below f22 fd22)
    (A23 : AtN K "_law_is_order" s_iord f23 fd23)
    (A24 : AtN K "_law_right" s_right f24 fd24)
    (A25 : AtN K "_law_spread" s_spread f25 fd25)
    (aL : PySem.W.nsIn K mainGlobals "law" = some (some (.ref fL))) (lL : K.lookup fL = some ⟨ocL, odL, .func (PySem.W.fnOf "law" "law" (defArgs s_law) (defBody s_law) (defScope s_law) .none kVL docL pmL anL cdL ctL), slL⟩) (cL : PySem.W.codeIn K cdL "law" = true) (kL : PySem.W.keepIn K (.ref fL) = true)
    (gT : PySem.W.nsIn K mainGlobals "TONGUE" = some (some (.ref tA))) (lT : K.lookup tA = some ⟨.type "tuple", dT, .seq its nT, slT⟩) (vT : Vals tongV its.toList) (zT : its.size ≤ sizeLine)
    (gM : PySem.W.nsIn K mainGlobals "MOST_LETTERS" = some (some (.int 8 tk1))) (gL : PySem.W.nsIn K mainGlobals "LETTERS" = some (some (.str abc tk2))) (gS : PySem.W.nsIn K mainGlobals "MOST_SLOTS" = some (some (.int 60 tk3))) (gN : PySem.W.nsIn K mainGlobals "MOST_NUMBER" = some (some (.int 9999 tk4)))
    (gP : PySem.W.nsIn K mainGlobals "PUTTING" = some (some (.ref pA))) (tP : TuA K pA (putL.map V.str))
    (gF : PySem.W.nsIn K mainGlobals "ORDERS" = some (some (.ref fA))) (lF : K.lookup fA = some ⟨.type "dict", none, .dict es nE, #[]⟩) (kl : PySem.W.KeysLit w.params es.toList) (ky : es.toList.all keyB = true) (lo : (fA == sysModules) = false)
    (m0 : FmA K fA (Str.ofString "take") (["hand", "name"].map Str.ofString))
    (m1 : FmA K fA (Str.ofString "ask") (["hand"].map Str.ofString))
    (m2 : FmA K fA (Str.ofString "number") (["hand", "number"].map Str.ofString))
    (m3 : FmA K fA (Str.ofString "copy") (["hand", "hand"].map Str.ofString))
    (m4 : FmA K fA (Str.ofString "mix") (["hand", "hand", "hand"].map Str.ofString))
    (m5 : FmA K fA (Str.ofString "open") (["hand", "hand"].map Str.ofString))
    (m6 : FmA K fA (Str.ofString "tell") (["hand"].map Str.ofString))
    (m7 : FmA K fA (Str.ofString "wipe") (["hand"].map Str.ofString))
    (m8 : FmA K fA (Str.ofString "lay") (["slot", "hand"].map Str.ofString))
    (m9 : FmA K fA (Str.ofString "fetch") (["hand", "slot"].map Str.ofString))
    (m10 : FmA K fA (Str.ofString "clean") (["slot"].map Str.ofString))
    (gW : PySem.W.nsIn K mainGlobals "AS_WORDS" = some (some (.ref wA))) (lW : K.lookup wA = some ⟨.type "dict", none, .dict ws nW, #[]⟩) (kw : PySem.W.KeysLit w.params ws.toList) (lw : (wA == sysModules) = false)
    (y0 : PySem.W.nsIn K wA (Str.ofString "lay") = some (some (.str (Str.ofString "copy") tw0)))
    (y1 : PySem.W.nsIn K wA (Str.ofString "fetch") = some (some (.str (Str.ofString "copy") tw1)))
    (y2 : PySem.W.nsIn K wA (Str.ofString "clean") = some (some (.str (Str.ofString "wipe") tw2)))
    (x0 : PySem.W.nsIn K wA (Str.ofString "take") = some none)
    (x1 : PySem.W.nsIn K wA (Str.ofString "ask") = some none)
    (x2 : PySem.W.nsIn K wA (Str.ofString "number") = some none)
    (x3 : PySem.W.nsIn K wA (Str.ofString "copy") = some none)
    (x4 : PySem.W.nsIn K wA (Str.ofString "mix") = some none)
    (x5 : PySem.W.nsIn K wA (Str.ofString "open") = some none)
    (x6 : PySem.W.nsIn K wA (Str.ofString "tell") = some none)
    (x7 : PySem.W.nsIn K wA (Str.ofString "wipe") = some none)
    (z0 : PySem.W.nsIn K mainGlobals "isinstance" = some none) (z1 : PySem.W.nsIn K mainGlobals "str" = some none) (z2 : PySem.W.nsIn K mainGlobals "len" = some none) (z3 : PySem.W.nsIn K mainGlobals "all" = some none) (z4 : PySem.W.nsIn K mainGlobals "int" = some none) (z5 : PySem.W.nsIn K mainGlobals "bool" = some none) (z6 : PySem.W.nsIn K mainGlobals "tuple" = some none) (z7 : PySem.W.nsIn K mainGlobals "zip" = some none) (z8 : PySem.W.nsIn K mainGlobals "range" = some none) (z9 : PySem.W.nsIn K mainGlobals "max" = some none) (z10 : PySem.W.nsIn K mainGlobals "min" = some none) (z11 : PySem.W.nsIn K mainGlobals "list" = some none) (z12 : PySem.W.nsIn K mainGlobals "any" = some none) (z13 : PySem.W.nsIn K mainGlobals "enumerate" = some none) (z14 : PySem.W.nsIn K mainGlobals "reversed" = some none) (z15 : PySem.W.nsIn K mainGlobals "ValueError" = some none) :
    LamX.LawAtS l w K CX0 11 63 "_law_script" mg fa h := by
  have G := top.g
  have e := hfa.symm.trans (PySem.W.mg_of X G aL)
  cases e
  have tb0 : PySem.W.tabIn K "is_name" = some (c0, T0) := tab_mk ga0 gl0 rfl lc0 v11_0
  obtain ⟨chd0, cT0⟩ := PySem.W.tab_of top X rn0 tb0
  have tb1 : PySem.W.tabIn K "is_order" = some (c1, T1) := tab_mk ga1 gl1 rfl lc1 v11_1
  obtain ⟨chd1, cT1⟩ := PySem.W.tab_of top X rn1 tb1
  have tb2 : PySem.W.tabIn K "is_code" = some (c2, T2) := tab_mk ga2 gl2 rfl lc2 v11_2
  obtain ⟨chd2, cT2⟩ := PySem.W.tab_of top X rn2 tb2
  have tb3 : PySem.W.tabIn K "is_straight" = some (c3, T3) := tab_mk ga3 gl3 rfl lc3 v11_3
  obtain ⟨chd3, cT3⟩ := PySem.W.tab_of top X rn3 tb3
  have chd4 := PySem.W.codeHd_of_K X hd3
  have cT4 := inN
  have FL := fun_mk (st := s_law) lL cL kL
  refine ⟨PySem.W.fnOf "law" "law" (defArgs s_law) (defBody s_law) (defScope s_law) .none kVL docL pmL anL cdL ctL, [(c0, T0), (c1, T1), (c2, T2), (c3, T3), (c4, T4)], spLaw K T0 T1 T2 T4 T3, ?_, ?_, ?_, fun s v => .of_eq rfl, ?_, fun base inB gls tabs => ?_⟩
  · intro p hp
    simp only [List.mem_cons, List.not_mem_nil, or_false] at hp
    rcases hp with rfl | rfl | rfl | rfl | rfl
    · exact cT0
    · exact cT1
    · exact cT2
    · exact cT3
    · exact cT4
  · intro p hp
    simp only [List.mem_cons, List.not_mem_nil, or_false] at hp
    rcases hp with rfl | rfl | rfl | rfl | rfl
    · exact tbn0
    · exact tbn1
    · exact tbn2
    · exact tbn3
    · exact tbn4
  · intro p hp
    simp only [List.mem_cons, List.not_mem_nil, or_false] at hp
    rcases hp with rfl | rfl | rfl | rfl | rfl
    · exact chd0
    · exact chd1
    · exact chd2
    · exact chd3
    · exact chd4
  · intro H a ns hl _ hH hS
    exact ⟨a, ns, rfl, hS, hl, ⟨⟨#[], hH (c0, T0) (by simp), True.intro⟩, ⟨#[], hH (c1, T1) (by simp), True.intro⟩, ⟨#[], hH (c2, T2) (by simp), True.intro⟩, ⟨#[], hH (c4, T4) (by simp), True.intro⟩⟩, ⟨#[], hH (c3, T3) (by simp), True.intro⟩, fun _ => rfl⟩
  · skip
    have tab0 : GxR.TabB base mg c0 T0 := by
      obtain ⟨u1, u2, u3⟩ := tabs (c0, T0) (by simp)
      exact ⟨u1, u2, u3⟩
    have tab1 : GxR.TabB base mg c1 T1 := by
      obtain ⟨u1, u2, u3⟩ := tabs (c1, T1) (by simp)
      exact ⟨u1, u2, u3⟩
    have tab2 : GxR.TabB base mg c2 T2 := by
      obtain ⟨u1, u2, u3⟩ := tabs (c2, T2) (by simp)
      exact ⟨u1, u2, u3⟩
    have tab3 : GxR.TabB base mg c3 T3 := by
      obtain ⟨u1, u2, u3⟩ := tabs (c3, T3) (by simp)
      exact ⟨u1, u2, u3⟩
    have tab4 : GxR.TabB base mg c4 T4 := by
      obtain ⟨u1, u2, u3⟩ := tabs (c4, T4) (by simp)
      exact ⟨u1, u2, u3⟩
    have M : Mg K mg tA := ⟨PySem.W.mg_none_of X G z0, PySem.W.mg_none_of X G z1, PySem.W.mg_none_of X G z2, PySem.W.mg_none_of X G z3, PySem.W.mg_of X G gT, fun H => .inr ⟨_, its, nT, lT, rfl, rfl, zT, vT⟩, ⟨_, PySem.W.mg_of X G gM⟩, ⟨_, PySem.W.mg_of X G gL⟩⟩
    have one : ∀ k ks, FmA K fA k ks → ∃ t, PySem.W.nsIn K fA k = some (some (.ref t)) ∧ KDct K w fA k (.ref t) ∧ ∀ H, SqT K H t (ks.map V.str) := fun k ks ⟨t, h1, d, its, n, sl, h2, h3, h4⟩ => ⟨t, h1, ⟨es, nE, _, lF, kl, h1, rfl⟩, fun H => .inr ⟨_, its, n, h2, rfl, rfl, h3, h4⟩⟩
    have MF : Fk K w mg fA es nE := ⟨PySem.W.mg_of X G gF, ⟨lF, kl, lo⟩, fun z ks hk => by
      unfold frm? at hk
      cases hf : formT.find? (fun p => p.1 == z) with
      | none => rw [hf] at hk; cases hk
      | some p =>
        rw [hf] at hk
        have e1 : p.2 = ks := Option.some.inj hk
        have e3 : (p.1 == z) = true := List.find?_some (p := fun p : Str × List Str => p.1 == z) hf
        have e2 : p.1 = z := eq_of_beq e3
        have hm : p ∈ [(Str.ofString "take", ["hand", "name"].map Str.ofString), (Str.ofString "ask", ["hand"].map Str.ofString), (Str.ofString "number", ["hand", "number"].map Str.ofString), (Str.ofString "copy", ["hand", "hand"].map Str.ofString), (Str.ofString "mix", ["hand", "hand", "hand"].map Str.ofString), (Str.ofString "open", ["hand", "hand"].map Str.ofString), (Str.ofString "tell", ["hand"].map Str.ofString), (Str.ofString "wipe", ["hand"].map Str.ofString), (Str.ofString "lay", ["slot", "hand"].map Str.ofString), (Str.ofString "fetch", ["hand", "slot"].map Str.ofString), (Str.ofString "clean", ["slot"].map Str.ofString)] := List.mem_of_find?_eq_some hf
        rw [← e1, ← e2]
        simp only [List.mem_cons, List.not_mem_nil, or_false] at hm
        rcases hm with rfl | rfl | rfl | rfl | rfl | rfl | rfl | rfl | rfl | rfl | rfl
        · exact one _ _ m0
        · exact one _ _ m1
        · exact one _ _ m2
        · exact one _ _ m3
        · exact one _ _ m4
        · exact one _ _ m5
        · exact one _ _ m6
        · exact one _ _ m7
        · exact one _ _ m8
        · exact one _ _ m9
        · exact one _ _ m10, no_mk lF ky⟩
    have TMk : TM K mg CM := ⟨⟨KCM.pg, KCM.hd, KCM.po, KCM.sa⟩, nCM_makings, nCM_known, nCM_kept, nCM_zero, PySem.W.mg_of X G KCM.a⟩
    have TTr : TT K mg CT := ⟨⟨KCT.pg, KCT.hd, KCT.po, KCT.sa⟩, nCT_forms, nCT_boxes, nCT_wanted, nCT_parts, PySem.W.mg_of X G KCT.a⟩
    have TLk : TL K mg CL := ⟨⟨KCL.pg, KCL.hd, KCL.po, KCL.sa⟩, nCL_forms, nCL_last, nCL_hands, nCL_slots, nCL_orders, PySem.W.mg_of X G KCL.a⟩
    have TN : NcT K mg CN := ⟨PySem.W.mg_of X G gNT, xNT, kNT, bNT, tNT⟩
    have on2 : ∀ k ks, FmA K fA k ks → ∃ t, KDct K w fA k (.ref t) ∧ ∀ H, SqT K H t (ks.map V.str) := fun k ks h => let ⟨t, _, h2, h3⟩ := one k ks h; ⟨t, h2, h3⟩
    have no : ∀ k a : Str, PySem.W.nsIn K wA k = some none → a = k → ∃ r : Option Value, PySem.W.nsIn K wA k = some r ∧ (∀ u, r = some u → RelV (.str a) u) ∧ (r = none → a = k) := fun k a h e => ⟨none, h, (fun u z => nomatch z), fun _ => e⟩
    have ye : ∀ (k a : Str) (t : Tok), PySem.W.nsIn K wA k = some (some (.str a t)) → ∃ r : Option Value, PySem.W.nsIn K wA k = some r ∧ (∀ u, r = some u → RelV (.str a) u) ∧ (r = none → a = k) := fun k a t h => ⟨some (.str a t), h, fun u z => by cases z; exact ⟨t, rfl⟩, fun z => nomatch z⟩
    have MO : Ok K w mg fA wA ws nW := ⟨PySem.W.mg_of X G gF, fun o => by
      cases o with
      | take h s => exact on2 _ _ m0
      | ask h => exact on2 _ _ m1
      | number h n => exact on2 _ _ m2
      | copy h g => exact on2 _ _ m3
      | mix h g i => exact on2 _ _ m4
      | opn h g => exact on2 _ _ m5
      | tell h => exact on2 _ _ m6
      | wipe h => exact on2 _ _ m7
      | lay s h => exact on2 _ _ m8
      | fetch h s => exact on2 _ _ m9
      | clean s => exact on2 _ _ m10
      , PySem.W.mg_of X G gW, ⟨lW, kw, lw⟩, fun o => by
      cases o with
      | take h s => exact no _ _ x0 rfl
      | ask h => exact no _ _ x1 rfl
      | number h n => exact no _ _ x2 rfl
      | copy h g => exact no _ _ x3 rfl
      | mix h g i => exact no _ _ x4 rfl
      | opn h g => exact no _ _ x5 rfl
      | tell h => exact no _ _ x6 rfl
      | wipe h => exact no _ _ x7 rfl
      | lay s h => exact ye _ _ _ y0
      | fetch h s => exact ye _ _ _ y1
      | clean s => exact ye _ _ _ y2
      ⟩
    have m_isinstance := PySem.W.mg_none_of X G z0
    have m_str := PySem.W.mg_none_of X G z1
    have m_len := PySem.W.mg_none_of X G z2
    have m_all := PySem.W.mg_none_of X G z3
    have m_int := PySem.W.mg_none_of X G z4
    have m_bool := PySem.W.mg_none_of X G z5
    have m_tuple := PySem.W.mg_none_of X G z6
    have m_zip := PySem.W.mg_none_of X G z7
    have m_range := PySem.W.mg_none_of X G z8
    have m_max := PySem.W.mg_none_of X G z9
    have m_min := PySem.W.mg_none_of X G z10
    have m_list := PySem.W.mg_none_of X G z11
    have m_any := PySem.W.mg_none_of X G z12
    have m_enumerate := PySem.W.mg_none_of X G z13
    have m_reversed := PySem.W.mg_none_of X G z14
    have m_ValueError := PySem.W.mg_none_of X G z15
    have gg0 := PySem.W.mg_of X G ga0
    have gF0 := fun_mk (st := sName) gl0 gc0 gk0
    have gb0 := gF0.binds (ps := ["thing"]) fun _ _ _ _ _ _ us hl => match us, hl with | [_], _ => rfl
    have gg1 := PySem.W.mg_of X G ga1
    have gF1 := fun_mk (st := s_form) gl1 gc1 gk1
    have gb1 := gF1.binds (ps := ["hands", "thing"]) fun _ _ _ _ _ _ us hl => match us, hl with | [_, _], _ => rfl
    have gg2 := PySem.W.mg_of X G ga2
    have gF2 := fun_mk (st := s_code) gl2 gc2 gk2
    have gb2 := gF2.binds (ps := ["hands", "thing"]) fun _ _ _ _ _ _ us hl => match us, hl with | [_, _], _ => rfl
    have gg3 := PySem.W.mg_of X G ga3
    have gF3 := fun_mk (st := s_is_straight) gl3 gc3 gk3
    have gb3 := gF3.binds (ps := ["row"]) fun _ _ _ _ _ _ us hl => match us, hl with | [_], _ => rfl
    have gF4 := fun_mk (st := s_keepsN) gl4 gc4 gk4
    have gb4 := gF4.binds (ps := ["self"]) fun _ _ _ _ _ _ us hl => match us, hl with | [_], _ => rfl
    have rb0 := B0.F.binds (ps := ["self", "making"]) fun _ _ _ _ _ _ us hl => match us, hl with | [_, _], _ => rfl
    have rb1 := B1.F.binds (ps := ["self", "making"]) fun _ _ _ _ _ _ us hl => match us, hl with | [_, _], _ => rfl
    have rb2 := B2.F.binds (ps := ["self"]) fun _ _ _ _ _ _ us hl => match us, hl with | [_], _ => rfl
    have rb3 := B3.F.binds (ps := ["self", "row", "forms"]) fun _ _ _ _ _ _ us hl => match us, hl with | [_, _, _], _ => rfl
    have rb4 := B4.F.binds (ps := ["self", "word", "asked"]) fun _ _ _ _ _ _ us hl => match us, hl with | [_, _, _], _ => rfl
    have rb5 := B5.F.binds (ps := ["self", "word", "asked"]) fun _ _ _ _ _ _ us hl => match us, hl with | [_, _, _], _ => rfl
    have rb6 := B6.F.binds (ps := ["self"]) fun _ _ _ _ _ _ us hl => match us, hl with | [_], _ => rfl
    have rb7 := B7.F.binds (ps := ["self", "forms", "last", "hands"]) fun _ _ _ _ _ _ us hl => match us, hl with | [_, _, _, _], _ => rfl
    have rb8 := B8.F.binds (ps := ["self", "form"]) fun _ _ _ _ _ _ us hl => match us, hl with | [_, _], _ => rfl
    have rb9 := B9.F.binds (ps := ["self", "form", "at"]) fun _ _ _ _ _ _ us hl => match us, hl with | [_, _, _], _ => rfl
    have rb10 := B10.F.binds (ps := ["self", "hand", "at"]) fun _ _ _ _ _ _ us hl => match us, hl with | [_, _, _], _ => rfl
    have rb11 := B11.F.binds (ps := ["self", "at", "spared"]) fun _ _ _ _ _ _ us hl => match us, hl with | [_, _, _], _ => rfl
    have rb12 := B12.F.binds (ps := ["self", "form", "hand"]) fun _ _ _ _ _ _ us hl => match us, hl with | [_, _, _], _ => rfl
    have rb13 := B13.F.binds (ps := ["self", "asked", "at"]) fun _ _ _ _ _ _ us hl => match us, hl with | [_, _, _], _ => rfl
    have rb14 := B14.F.binds (ps := ["self", "at", "part"]) fun _ _ _ _ _ _ us hl => match us, hl with | [_, _, _], _ => rfl
    have rb15 := B15.F.binds (ps := ["self", "form"]) fun _ _ _ _ _ _ us hl => match us, hl with | [_, _], _ => rfl
    have rb16 := B16.F.binds (ps := ["self", "kind", "rest", "form", "at"]) fun _ _ _ _ _ _ us hl => match us, hl with | [_, _, _, _, _], _ => rfl
    have rb17 := B17.F.binds (ps := ["self"]) fun _ _ _ _ _ _ us hl => match us, hl with | [_], _ => rfl
    have g0 := PySem.W.mg_of X G A0.a
    have b0 := A0.F.binds (ps := ["thing"]) fun _ _ _ _ _ _ us hl => match us, hl with | [_], _ => rfl
    have g1 := PySem.W.mg_of X G A1.a
    have b1 := A1.F.binds (ps := ["kind", "part", "hands"]) fun _ _ _ _ _ _ us hl => match us, hl with | [_, _, _], _ => rfl
    have g2 := PySem.W.mg_of X G A2.a
    have b2 := A2.F.binds (ps := ["word"]) fun _ _ _ _ _ _ us hl => match us, hl with | [_], _ => rfl
    have g3 := PySem.W.mg_of X G A3.a
    have b3 := A3.F.binds (ps := ["word"]) fun _ _ _ _ _ _ us hl => match us, hl with | [_], _ => rfl
    have g4 := PySem.W.mg_of X G A4.a
    have b4 := A4.F.binds (ps := ["order"]) fun _ _ _ _ _ _ us hl => match us, hl with | [_], _ => rfl
    have g5 := PySem.W.mg_of X G A5.a
    have b5 := A5.F.binds (ps := ["row", "hands", "code"]) fun _ _ _ _ _ _ us hl => match us, hl with | [_, _, _], _ => rfl
    have g6 := PySem.W.mg_of X G A6.a
    have b6 := A6.F.binds (ps := ["parts"]) fun _ _ _ _ _ _ us hl => match us, hl with | [_], _ => rfl
    have g7 := PySem.W.mg_of X G A7.a
    have b7 := A7.F.binds (ps := ["row", "hands"]) fun _ _ _ _ _ _ us hl => match us, hl with | [_, _], _ => rfl
    have g8 := PySem.W.mg_of X G A8.a
    have b8 := A8.F.binds (ps := ["_law_script", "_law_k"]) fun _ _ _ _ _ _ us hl => match us, hl with | [_, _], _ => rfl
    have g9 := PySem.W.mg_of X G A9.a
    have b9 := A9.F.binds (ps := ["_law_cell"]) fun _ _ _ _ _ _ us hl => match us, hl with | [_], _ => rfl
    have g10 := PySem.W.mg_of X G A10.a
    have b10 := A10.F.binds (ps := ["_law_state", "_law_many"]) fun _ _ _ _ _ _ us hl => match us, hl with | [_, _], _ => rfl
    have g11 := PySem.W.mg_of X G A11.a
    have b11 := A11.F.binds (ps := ["_law_known", "_law_form_here"]) fun _ _ _ _ _ _ us hl => match us, hl with | [_, _], _ => rfl
    have g12 := PySem.W.mg_of X G A12.a
    have b12 := A12.F.binds (ps := ["_law_known", "_law_row_here"]) fun _ _ _ _ _ _ us hl => match us, hl with | [_, _], _ => rfl
    have g13 := PySem.W.mg_of X G A13.a
    have b13 := A13.F.binds (ps := ["_law_order"]) fun _ _ _ _ _ _ us hl => match us, hl with | [_], _ => rfl
    have g14 := PySem.W.mg_of X G A14.a
    have b14 := A14.F.binds (ps := ["_law_row_here", "_law_code"]) fun _ _ _ _ _ _ us hl => match us, hl with | [_, _], _ => rfl
    have g15 := PySem.W.mg_of X G A15.a
    have b15 := A15.F.binds (ps := ["_law_state", "_law_row_here"]) fun _ _ _ _ _ _ us hl => match us, hl with | [_, _], _ => rfl
    have g16 := PySem.W.mg_of X G A16.a
    have b16 := A16.F.binds (ps := ["_law_state", "_law_many"]) fun _ _ _ _ _ _ us hl => match us, hl with | [_, _], _ => rfl
    have g17 := PySem.W.mg_of X G A17.a
    have b17 := A17.F.binds (ps := ["_law_state", "_law_many"]) fun _ _ _ _ _ _ us hl => match us, hl with | [_, _], _ => rfl
    have g18 := PySem.W.mg_of X G A18.a
    have b18 := A18.F.binds (ps := ["_law_state", "_law_boxes_here", "_law_worths", "_law_many"]) fun _ _ _ _ _ _ us hl => match us, hl with | [_, _, _, _], _ => rfl
    have g19 := PySem.W.mg_of X G A19.a
    have b19 := A19.F.binds (ps := ["_law_state", "_law_row_here"]) fun _ _ _ _ _ _ us hl => match us, hl with | [_, _], _ => rfl
    have g20 := PySem.W.mg_of X G A20.a
    have b20 := A20.F.binds (ps := ["_law_state", "_law_worths"]) fun _ _ _ _ _ _ us hl => match us, hl with | [_, _], _ => rfl
    have g21 := PySem.W.mg_of X G A21.a
    have b21 := A21.F.binds (ps := ["_law_state"]) fun _ _ _ _ _ _ us hl => match us, hl with | [_], _ => rfl
    have g22 := PySem.W.mg_of X G A22.a
    have b22 := A22.F.binds (ps := ["_law_thing", "_law_end"]) fun _ _ _ _ _ _ us hl => match us, hl with | [_, _], _ => rfl
    have g23 := PySem.W.mg_of X G A23.a
    have b23 := A23.F.binds (ps := ["_law_order", "_law_hands"]) fun _ _ _ _ _ _ us hl => match us, hl with | [_, _], _ => rfl
    have g24 := PySem.W.mg_of X G A24.a
    have b24 := A24.F.binds (ps := ["_law_row_here", "_law_hands"]) fun _ _ _ _ _ _ us hl => match us, hl with | [_, _], _ => rfl
    have g25 := PySem.W.mg_of X G A25.a
    have b25 := A25.F.binds (ps := ["_law_state"]) fun _ _ _ _ _ _ us hl => match us, hl with | [_], _ => rfl
    have o_name : FnOk l.prog w K mg base CX0 1 p0 _ ["thing"] (spName K T0) := ok_name gl0 gc0 tab0 M gls
    have o_nameD := name_data o_name
    have o_whole : FnOk l.prog w K mg base CX0 1 f0 fd0 ["thing"] (spWhole K) := ok_is_whole A0.F m_isinstance m_int m_bool
    have o_part : FnOk l.prog w K mg base CX0 2 f1 fd1 ["kind", "part", "hands"] (spPart K T0) := ok_part A1.F ⟨o_nameD.mono (by decide), gk0, gb0, gg0⟩ ⟨o_whole.mono (by decide), A0.F.kp, b0, g0⟩ ⟨_, PySem.W.mg_of X G gS⟩ ⟨_, PySem.W.mg_of X G gN⟩
    have o_form : FnOk l.prog w K mg base CX0 5 p1 _ ["hands", "thing"] (spForm K T0 T1) := ok_form gl1 gc1 tab1 ⟨o_part.mono (by decide), A1.F.kp, b1, g1⟩ MF m_isinstance m_tuple m_str m_all m_len m_zip
    have o_code : FnOk l.prog w K mg base CX0 8 p2 _ ["hands", "thing"] (spCode K T0 T1 T2) := ok_code gl2 gc2 tab2 ⟨o_form.mono (by decide), gk1, gb1, gg1⟩ m_isinstance m_tuple m_all
    have o_keeps : FnOk l.prog w K mg base CX0 1 r0 rd0 ["self", "making"] (spKeeps CM) := ok_keeps B0.F TMk
    have o_made : FnOk l.prog w K mg base CX0 2 r1 rd1 ["self", "making"] (spMade CM) := ok_made B1.F TMk o_keeps ⟨B0.a, B0.i, B0.k⟩ rb0 m_len
    have o_foi : FnOk l.prog w K mg base CX0 3 r2 rd2 ["self"] (spFoInit CM) := ok_foinit B2.F TMk o_made ⟨B1.a, B1.i, B1.k⟩ rb1
    have o_ch : FnOk l.prog w K mg base CX0 1 f2 fd2 ["word"] (spChoices K) := ok_choices A2.F ⟨_, PySem.W.mg_of X G gN⟩
    have o_ask : FnOk l.prog w K mg base CX0 1 f3 fd3 ["word"] (spAsked K) := ok_asked A3.F
    have o_as : FnOk l.prog w K mg base CX0 1 f4 fd4 ["order"] (spAs K) := ok_as A4.F MO m_zip m_tuple
    have o_fb : FnOk l.prog w K mg base CX0 3 r5 rd5 ["self", "word", "asked"] (spFormBy K CM CT) := ok_form_by B5.F TTr TMk o_made ⟨B1.a, B1.i, B1.k⟩ rb1 ⟨o_ch.mono (by decide), A2.F.kp, b2, g2⟩ (PySem.W.mg_of X G gP) tP.sq
    have o_put : FnOk l.prog w K mg base CX0 4 r4 rd4 ["self", "word", "asked"] (spPut K CM CT) := ok_put B4.F TTr o_fb ⟨B5.a, B5.i, B5.k⟩ rb5
    have o_tri : FnOk l.prog w K mg base CX0 5 r3 rd3 ["self", "row", "forms"] (spTrInit K CM CT) := ok_trinit B3.F TTr TMk o_put ⟨B4.a, B4.i, B4.k⟩ rb4 ⟨o_ask.mono (by decide), A3.F.kp, b3, g3⟩ m_tuple
    have o_out : FnOk l.prog w K mg base CX0 1 r6 rd6 ["self"] (spOuter K CT) := ok_outer B6.F TTr
    have o_kn : FnOk l.prog w K mg base CX0 3 p4 _ ["self"] (spKeepsN CM CT T4) := ok_keepsN (k := 0) gl4 gc4 tab4 TTr TMk m_any
    have o_strt : FnOk l.prog w K mg base CX0 3 p3 _ ["row"] (spStr K T3) := ok_is_straight (k := 0) gl3 gc3 tab3 m_all (PySem.W.mg_of X G gST) tST.sq
    have o_ch2 : FnOk l.prog w K mg base CX0 9 f5 fd5 ["row", "hands", "code"] (spHolds K T0 T1 T2 T4) := ok_chold (k := 7) A5.F TTr TMk ⟨KCM.ms, B2.a, B2.i, KCM.kc⟩ (o_foi.mono (by decide)) rb2 ⟨KCT.ms, B3.a, B3.i, KCT.kc⟩ (o_tri.mono (by decide)) rb3 (o_kn.mono (by decide)) ⟨ga4, gi3, gk4⟩ gb4 (o_out.mono (by decide)) ⟨B6.a, B6.i, B6.k⟩ rb6 ⟨o_code.mono (by decide), gk2, gb2, gg2⟩ ⟨o_as.mono (by decide), A4.F.kp, b4, g4⟩
    have o_cell : FnOk l.prog w K mg base CX0 1 f8 fd8 ["_law_script", "_law_k"] (spCell K) := ok_cell A8.F m_len
    have o_begin : FnOk l.prog w K mg base CX0 1 f9 fd9 ["_law_cell"] spBegin := ok_begin A9.F
    have o_draw : FnOk l.prog w K mg base CX0 1 f10 fd10 ["_law_state", "_law_many"] spDraw := ok_draw A10.F
    have o_lf : FnOk l.prog w K mg base CX0 1 f11 fd11 ["_law_known", "_law_form_here"] spLForm := ok_lform A11.F m_len
    have o_done : FnOk l.prog w K mg base CX0 2 f12 fd12 ["_law_known", "_law_row_here"] (spDone K) := ok_done A12.F ⟨o_lf.mono (by decide), A11.F.kp, b11, g11⟩ m_len m_tuple
    have o_last : FnOk l.prog w K mg base CX0 1 f6 fd6 ["parts"] (spLast K) := ok_last A6.F m_reversed m_range m_len
    have o_li : FnOk l.prog w K mg base CX0 1 r7 rd7 ["self", "forms", "last", "hands"] (spLyInit K CM CL) := ok_linit B7.F TLk TMk ⟨_, PySem.W.mg_of X G gS⟩
    have o_isn : FnOk l.prog w K mg base CX0 1 r8 rd8 ["self", "form"] (spIsNum CM CL) := ok_isnum B8.F TLk TMk
    have o_has : FnOk l.prog w K mg base CX0 1 r15 rd15 ["self", "form"] (spHas CL) := ok_has B15.F TLk
    have o_due : FnOk l.prog w K mg base CX0 2 r9 rd9 ["self", "form", "at"] (spDue K CM CL) := ok_due B9.F TLk (o_isn.mono (by decide)) ⟨B8.a, B8.i, B8.k⟩ rb8
    have o_lay : FnOk l.prog w K mg base CX0 3 r10 rd10 ["self", "hand", "at"] (spLay K CM CL) := ok_lay B10.F TLk (o_due.mono (by decide)) ⟨B9.a, B9.i, B9.k⟩ rb9 m_enumerate m_len
    have o_free : FnOk l.prog w K mg base CX0 4 r11 rd11 ["self", "at", "spared"] (spFree K CM CL) := ok_free B11.F TLk (o_due.mono (by decide)) ⟨B9.a, B9.i, B9.k⟩ rb9 (o_lay.mono (by decide)) ⟨B10.a, B10.i, B10.k⟩ rb10 m_range m_len m_max
    have o_fetch : FnOk l.prog w K mg base CX0 2 r12 rd12 ["self", "form", "hand"] (spFetch K CM CL) := ok_fetch B12.F TLk TMk (o_isn.mono (by decide)) ⟨B8.a, B8.i, B8.k⟩ rb8
    have o_hw : FnOk l.prog w K mg base CX0 5 r13 rd13 ["self", "asked", "at"] (spHandsW K CM CL) := ok_hands_with B13.F TLk (o_free.mono (by decide)) ⟨B11.a, B11.i, B11.k⟩ rb11 (o_fetch.mono (by decide)) ⟨B12.a, B12.i, B12.k⟩ rb12
    have o_pih : FnOk l.prog w K mg base CX0 5 r16 rd16 ["self", "kind", "rest", "form", "at"] (spPutIn K CM CL) := ok_put_in B16.F TLk (o_free.mono (by decide)) ⟨B11.a, B11.i, B11.k⟩ rb11
    have o_do : FnOk l.prog w K mg base CX0 6 r14 rd14 ["self", "at", "part"] (spDo K CM CL) := ok_do B14.F TLk (o_hw.mono (by decide)) ⟨B13.a, B13.i, B13.k⟩ rb13 (o_pih.mono (by decide)) ⟨B16.a, B16.i, B16.k⟩ rb16 (o_due.mono (by decide)) ⟨B9.a, B9.i, B9.k⟩ rb9 (o_has.mono (by decide)) ⟨B15.a, B15.i, B15.k⟩ rb15
    have o_wa : FnOk l.prog w K mg base CX0 1 r17 rd17 ["self"] (spWipeAll K CM CL) := ok_wipe_all B17.F TLk TMk m_enumerate
    have o_coded : FnOk l.prog w K mg base (L2.CX l.prog w) 7 f7 fd7 ["row", "hands"] (spCoded K CN T4 T3) := ok_coded (k := 5) A7.F TTr TMk TLk TN ⟨KCM.ms, B2.a, B2.i, KCM.kc⟩ (o_foi.mono (by decide)) rb2 ⟨KCT.ms, B3.a, B3.i, KCT.kc⟩ (o_tri.mono (by decide)) rb3 (o_kn.mono (by decide)) ⟨ga4, gi3, gk4⟩ gb4 ⟨KCL.ms, B7.a, B7.i, KCL.kc⟩ (o_li.mono (by decide)) rb7 (o_do.mono (by decide)) ⟨B14.a, B14.i, B14.k⟩ rb14 (o_wa.mono (by decide)) ⟨B17.a, B17.i, B17.k⟩ rb17 ⟨o_strt.mono (by decide), gk3, gb3, gg3⟩ ⟨o_last.mono (by decide), A6.F.kp, b6, g6⟩ m_enumerate m_tuple
    have o_asw : FnOk l.prog w K mg base CX0 1 f13 fd13 ["_law_order"] (spAsW K) := ok_asw A13.F m_tuple
    have o_lh : FnOk l.prog w K mg base CX0 3 f14 fd14 ["_law_row_here", "_law_code"] (spLHolds K) := ok_lholds A14.F ⟨o_done.mono (by decide), A12.F.kp, b12, g12⟩ ⟨o_asw.mono (by decide), A13.F.kp, b13, g13⟩
    have o_one : FnOk l.prog w K mg base CX0 2 f15 fd15 ["_law_state", "_law_row_here"] (spOne K) := ok_one A15.F ⟨o_draw.mono (by decide), A10.F.kp, b10, g10⟩ m_len
    have o_pool : FnOk l.prog w K mg base CX0 2 f16 fd16 ["_law_state", "_law_many"] spPool := ok_pool A16.F ⟨o_draw.mono (by decide), A10.F.kp, b10, g10⟩ m_range
    have o_boxes : FnOk l.prog w K mg base CX0 3 f17 fd17 ["_law_state", "_law_many"] spBoxes := ok_boxes A17.F ⟨o_draw.mono (by decide), A10.F.kp, b10, g10⟩ ⟨o_pool.mono (by decide), A16.F.kp, b16, g16⟩ m_range
    have o_str : FnOk l.prog w K mg base CX0 3 f18 fd18 ["_law_state", "_law_boxes_here", "_law_worths", "_law_many"] (spStraight K) := ok_straight A18.F ⟨o_draw.mono (by decide), A10.F.kp, b10, g10⟩ ⟨o_one.mono (by decide), A15.F.kp, b15, g15⟩ m_range
    have o_wiped : FnOk l.prog w K mg base CX0 3 f19 fd19 ["_law_state", "_law_row_here"] (spWiped K) := ok_wiped A19.F ⟨o_draw.mono (by decide), A10.F.kp, b10, g10⟩ ⟨o_done.mono (by decide), A12.F.kp, b12, g12⟩ m_len m_tuple
    have o_wide : FnOk l.prog w K mg base CX0 4 f20 fd20 ["_law_state", "_law_worths"] (spWide K) := ok_wide A20.F ⟨o_draw.mono (by decide), A10.F.kp, b10, g10⟩ ⟨o_boxes.mono (by decide), A17.F.kp, b17, g17⟩ ⟨o_one.mono (by decide), A15.F.kp, b15, g15⟩ m_min m_enumerate m_list m_len m_tuple
    have o_row : FnOk l.prog w K mg base CX0 5 f21 fd21 ["_law_state"] (spRow K) := ok_row A21.F ⟨o_draw.mono (by decide), A10.F.kp, b10, g10⟩ ⟨o_pool.mono (by decide), A16.F.kp, b16, g16⟩ ⟨o_boxes.mono (by decide), A17.F.kp, b17, g17⟩ ⟨o_wide.mono (by decide), A20.F.kp, b20, g20⟩ ⟨o_str.mono (by decide), A18.F.kp, b18, g18⟩ ⟨o_wiped.mono (by decide), A19.F.kp, b19, g19⟩ m_int
    have o_below : FnOk l.prog w K mg base CX0 1 f22 fd22 ["_law_thing", "_law_end"] (spBelow K) := ok_below A22.F m_isinstance m_int m_bool
    have o_iord : FnOk l.prog w K mg base CX0 2 f23 fd23 ["_law_order", "_law_hands"] (spIsOrd K) := ok_iord A23.F ⟨o_below.mono (by decide), A22.F.kp, b22, g22⟩ m_isinstance m_tuple m_str m_len m_zip
    have o_right : FnOk l.prog w K mg base CX0 10 f24 fd24 ["_law_row_here", "_law_hands"] (spRight K T0 T1 T2 T4 T3) := ok_right (k := 9) A24.F ⟨o_coded.mono (by decide), A7.F.kp, b7, g7⟩ ⟨o_iord.mono (by decide), A23.F.kp, b23, g23⟩ ⟨o_code.mono (by decide), gk2, gb2, gg2⟩ ⟨o_lh.mono (by decide), A14.F.kp, b14, g14⟩ ⟨o_ch2.mono (by decide), A5.F.kp, b5, g5⟩ m_isinstance m_tuple
    have o_spr : FnOk l.prog w K mg base CX0 2 f25 fd25 ["_law_state"] (spSpread K) := ok_spread A25.F ⟨o_draw.mono (by decide), A10.F.kp, b10, g10⟩ m_range m_tuple
    exact ok_law (k := 10) FL ⟨o_begin.mono (by decide), A9.F.kp, b9, g9⟩ ⟨o_cell.mono (by decide), A8.F.kp, b8, g8⟩ ⟨o_draw.mono (by decide), A10.F.kp, b10, g10⟩ ⟨o_row.mono (by decide), A21.F.kp, b21, g21⟩ ⟨o_spr.mono (by decide), A25.F.kp, b25, g25⟩ ⟨o_right.mono (by decide), A24.F.kp, b24, g24⟩ m_len m_range m_max m_min
end K48

open PySem PySem.W PyProof.Rows
local macro_rules | `(tactic| o_head ($f $k $a $e)) => `(tactic| o_head (PySem.W.kmHook $k $a $e [186]))
set_option maxRecDepth 100000 in
set_option maxHeartbeats 0 in
theorem PySem.Challenge.cw_wipeways_k48_codes_told_holds : PySem.Challenge.rw_wipeways_k48_codes_told.Holds := by
  w_on; o_law; k_head; (case hw => w_witness2)
  k_fill
  refine Kk.walkT2 (N := 186) (l := PySem.Challenge.rw_wipeways_k48_codes_told) (m := 63) (lev := 11) (x := "_law_script") rfl (by decide) rfl ⟨rfl, by decide, by decide⟩ (fun w h Y => ⟨Y.1, Y.2 186 (List.mem_singleton.mpr rfl)⟩) ?F
  case F =>
    intro w mg mb mean fa h KX inN top hmg
    refine' K48.all_mk KX top hmg inN (K48.atC_mk ?KaCM ?KpgCM ?KhdCM ?KpoCM ?KsaCM ?KmkCM ?KkcCM) ?nCM_makings ?nCM_known ?nCM_kept ?nCM_zero (K48.atC_mk ?KaCT ?KpgCT ?KhdCT ?KpoCT ?KsaCT ?KmkCT ?KkcCT) ?nCT_forms ?nCT_boxes ?nCT_wanted ?nCT_parts (K48.atC_mk ?KaCL ?KpgCL ?KhdCL ?KpoCL ?KsaCL ?KmkCL ?KkcCL) ?nCL_forms ?nCL_last ?nCL_hands ?nCL_slots ?nCL_orders (K48.atM_mk ?Ba0 ?Bi0 ?Bl0 ?Bc0 ?Bk0) (K48.atM_mk ?Ba1 ?Bi1 ?Bl1 ?Bc1 ?Bk1) (K48.atM_mk ?Ba2 ?Bi2 ?Bl2 ?Bc2 ?Bk2) (K48.atM_mk ?Ba3 ?Bi3 ?Bl3 ?Bc3 ?Bk3) (K48.atM_mk ?Ba4 ?Bi4 ?Bl4 ?Bc4 ?Bk4) (K48.atM_mk ?Ba5 ?Bi5 ?Bl5 ?Bc5 ?Bk5) (K48.atM_mk ?Ba6 ?Bi6 ?Bl6 ?Bc6 ?Bk6) (K48.atM_mk ?Ba7 ?Bi7 ?Bl7 ?Bc7 ?Bk7) (K48.atM_mk ?Ba8 ?Bi8 ?Bl8 ?Bc8 ?Bk8) (K48.atM_mk ?Ba9 ?Bi9 ?Bl9 ?Bc9 ?Bk9) (K48.atM_mk ?Ba10 ?Bi10 ?Bl10 ?Bc10 ?Bk10) (K48.atM_mk ?Ba11 ?Bi11 ?Bl11 ?Bc11 ?Bk11) (K48.atM_mk ?Ba12 ?Bi12 ?Bl12 ?Bc12 ?Bk12) (K48.atM_mk ?Ba13 ?Bi13 ?Bl13 ?Bc13 ?Bk13) (K48.atM_mk ?Ba14 ?Bi14 ?Bl14 ?Bc14 ?Bk14) (K48.atM_mk ?Ba15 ?Bi15 ?Bl15 ?Bc15 ?Bk15) (K48.atM_mk ?Ba16 ?Bi16 ?Bl16 ?Bc16 ?Bk16) (K48.atM_mk ?Ba17 ?Bi17 ?Bl17 ?Bc17 ?Bk17) ?ga0 ?gl0 ?gc0 ?gk0 ?rn0 ?lc0 ?v11_0 ?tbn0 ?ga1 ?gl1 ?gc1 ?gk1 ?rn1 ?lc1 ?v11_1 ?tbn1 ?ga2 ?gl2 ?gc2 ?gk2 ?rn2 ?lc2 ?v11_2 ?tbn2 ?ga3 ?gl3 ?gc3 ?gk3 ?rn3 ?lc3 ?v11_3 ?tbn3 ?ga4 ?gl4 ?gc4 ?gk4 ?lc4 ?v11_4 ?tbn4 ?gi3 ?hd3 ?gST (K48.tuA_mk ?tlS ?tzS ?tvS) ?gNT ?xNT ?kNT ?bNT ?tNT (K48.at_mk ?b0 ?l_0 ?c_0 ?k_0) (K48.at_mk ?b1 ?l_1 ?c_1 ?k_1) (K48.at_mk ?b2 ?l_2 ?c_2 ?k_2) (K48.at_mk ?b3 ?l_3 ?c_3 ?k_3) (K48.at_mk ?b4 ?l_4 ?c_4 ?k_4) (K48.at_mk ?b5 ?l_5 ?c_5 ?k_5) (K48.at_mk ?b6 ?l_6 ?c_6 ?k_6) (K48.at_mk ?b7 ?l_7 ?c_7 ?k_7) (K48.at_mk ?b8 ?l_8 ?c_8 ?k_8) (K48.at_mk ?b9 ?l_9 ?c_9 ?k_9) (K48.at_mk ?b10 ?l_10 ?c_10 ?k_10) (K48.at_mk ?b11 ?l_11 ?c_11 ?k_11) (K48.at_mk ?b12 ?l_12 ?c_12 ?k_12) (K48.at_mk ?b13 ?l_13 ?c_13 ?k_13) (K48.at_mk ?b14 ?l_14 ?c_14 ?k_14) (K48.at_mk ?b15 ?l_15 ?c_15 ?k_15) (K48.at_mk ?b16 ?l_16 ?c_16 ?k_16) (K48.at_mk ?b17 ?l_17 ?c_17 ?k_17) (K48.at_mk ?b18 ?l_18 ?c_18 ?k_18) (K48.at_mk ?b19 ?l_19 ?c_19 ?k_19) (K48.at_mk ?b20 ?l_20 ?c_20 ?k_20) (K48.at_mk ?b21 ?l_21 ?c_21 ?k_21) (K48.at_mk ?b22 ?l_22 ?c_22 ?k_22) (K48.at_mk ?b23 ?l_23 ?c_23 ?k_23) (K48.at_mk ?b24 ?l_24 ?c_24 ?k_24) (K48.at_mk ?b25 ?l_25 ?c_25 ?k_25) ?aL ?lL ?cL ?kL ?gT ?lT ?vT ?zT ?gM ?gL ?gS ?gN ?gP (K48.tuA_mk ?tlP ?tzP ?tvP) ?gF ?lF ?kl ?ky ?lo (K48.fmA_mk ?n0 ?t0 ?s0 ?u0) (K48.fmA_mk ?n1 ?t1 ?s1 ?u1) (K48.fmA_mk ?n2 ?t2 ?s2 ?u2) (K48.fmA_mk ?n3 ?t3 ?s3 ?u3) (K48.fmA_mk ?n4 ?t4 ?s4 ?u4) (K48.fmA_mk ?n5 ?t5 ?s5 ?u5) (K48.fmA_mk ?n6 ?t6 ?s6 ?u6) (K48.fmA_mk ?n7 ?t7 ?s7 ?u7) (K48.fmA_mk ?n8 ?t8 ?s8 ?u8) (K48.fmA_mk ?n9 ?t9 ?s9 ?u9) (K48.fmA_mk ?n10 ?t10 ?s10 ?u10) ?gW ?lW ?kw ?lw ?y0 ?y1 ?y2 ?x0 ?x1 ?x2 ?x3 ?x4 ?x5 ?x6 ?x7 ?z0 ?z1 ?z2 ?z3 ?z4 ?z5 ?z6 ?z7 ?z8 ?z9 ?z10 ?z11 ?z12 ?z13 ?z14 ?z15
    (case KaCM => k_is); (case KpgCM => k_is); (case KhdCM => k_is); (case KpoCM => k_is); (case KsaCM => k_is); (case KmkCM => k_is); (case KkcCM => k_is)
    (case nCM_makings => k_is); (case nCM_known => k_is); (case nCM_kept => k_is); (case nCM_zero => k_is)
    (case KaCT => k_is); (case KpgCT => k_is); (case KhdCT => k_is); (case KpoCT => k_is); (case KsaCT => k_is); (case KmkCT => k_is); (case KkcCT => k_is)
    (case nCT_forms => k_is); (case nCT_boxes => k_is); (case nCT_wanted => k_is); (case nCT_parts => k_is)
    (case KaCL => k_is); (case KpgCL => k_is); (case KhdCL => k_is); (case KpoCL => k_is); (case KsaCL => k_is); (case KmkCL => k_is); (case KkcCL => k_is)
    (case nCL_forms => k_is); (case nCL_last => k_is); (case nCL_hands => k_is); (case nCL_slots => k_is); (case nCL_orders => k_is)
    (case Ba0 => k_is); (case Bi0 => k_is); (case Bl0 => k_is); (case Bc0 => k_is); (case Bk0 => k_is)
    (case Ba1 => k_is); (case Bi1 => k_is); (case Bl1 => k_is); (case Bc1 => k_is); (case Bk1 => k_is)
    (case Ba2 => k_is); (case Bi2 => k_is); (case Bl2 => k_is); (case Bc2 => k_is); (case Bk2 => k_is)
    (case Ba3 => k_is); (case Bi3 => k_is); (case Bl3 => k_is); (case Bc3 => k_is); (case Bk3 => k_is)
    (case Ba4 => k_is); (case Bi4 => k_is); (case Bl4 => k_is); (case Bc4 => k_is); (case Bk4 => k_is)
    (case Ba5 => k_is); (case Bi5 => k_is); (case Bl5 => k_is); (case Bc5 => k_is); (case Bk5 => k_is)
    (case Ba6 => k_is); (case Bi6 => k_is); (case Bl6 => k_is); (case Bc6 => k_is); (case Bk6 => k_is)
    (case Ba7 => k_is); (case Bi7 => k_is); (case Bl7 => k_is); (case Bc7 => k_is); (case Bk7 => k_is)
    (case Ba8 => k_is); (case Bi8 => k_is); (case Bl8 => k_is); (case Bc8 => k_is); (case Bk8 => k_is)
    (case Ba9 => k_is); (case Bi9 => k_is); (case Bl9 => k_is); (case Bc9 => k_is); (case Bk9 => k_is)
    (case Ba10 => k_is); (case Bi10 => k_is); (case Bl10 => k_is); (case Bc10 => k_is); (case Bk10 => k_is)
    (case Ba11 => k_is); (case Bi11 => k_is); (case Bl11 => k_is); (case Bc11 => k_is); (case Bk11 => k_is)
    (case Ba12 => k_is); (case Bi12 => k_is); (case Bl12 => k_is); (case Bc12 => k_is); (case Bk12 => k_is)
    (case Ba13 => k_is); (case Bi13 => k_is); (case Bl13 => k_is); (case Bc13 => k_is); (case Bk13 => k_is)
    (case Ba14 => k_is); (case Bi14 => k_is); (case Bl14 => k_is); (case Bc14 => k_is); (case Bk14 => k_is)
    (case Ba15 => k_is); (case Bi15 => k_is); (case Bl15 => k_is); (case Bc15 => k_is); (case Bk15 => k_is)
    (case Ba16 => k_is); (case Bi16 => k_is); (case Bl16 => k_is); (case Bc16 => k_is); (case Bk16 => k_is)
    (case Ba17 => k_is); (case Bi17 => k_is); (case Bl17 => k_is); (case Bc17 => k_is); (case Bk17 => k_is)
    (case ga0 => k_is); (case gl0 => k_is); (case gc0 => k_is); (case gk0 => k_is)
    (case ga1 => k_is); (case gl1 => k_is); (case gc1 => k_is); (case gk1 => k_is)
    (case ga2 => k_is); (case gl2 => k_is); (case gc2 => k_is); (case gk2 => k_is)
    (case ga3 => k_is); (case gl3 => k_is); (case gc3 => k_is); (case gk3 => k_is)
    (case ga4 => k_is); (case gl4 => k_is); (case gc4 => k_is); (case gk4 => k_is)
    (case gi3 => k_is)
    (case gST => k_is); (case tlS => k_is); (case tzS => decide); (case tvS => exact .cons ⟨_, rfl⟩ (.cons ⟨_, rfl⟩ (.cons ⟨_, rfl⟩ (.cons ⟨_, rfl⟩ (.cons ⟨_, rfl⟩ (.cons ⟨_, rfl⟩ (.cons ⟨_, rfl⟩ (.cons ⟨_, rfl⟩ (.nil)))))))))
    (case gNT => k_is); (case xNT => first | k_exc | k_is | rfl | kernel_rfl | decide +kernel); (case kNT => first | k_is | rfl | kernel_rfl | decide +kernel); (case bNT => first | k_is | rfl | kernel_rfl | decide +kernel); (case tNT => first | k_is | rfl | kernel_rfl | decide +kernel)
    (case lc0 => k_is); (case v11_0 => rfl)
    (case lc1 => k_is); (case v11_1 => rfl)
    (case lc2 => k_is); (case v11_2 => rfl)
    (case lc3 => k_is); (case v11_3 => rfl)
    (case lc4 => k_is); (case v11_4 => rfl)
    (case hd3 => first | k_is | kernel_rfl | decide +kernel)
    (case tbn0 => first | rfl | k_is | kernel_rfl); (case rn0 => rfl)
    (case tbn1 => first | rfl | k_is | kernel_rfl); (case rn1 => rfl)
    (case tbn2 => first | rfl | k_is | kernel_rfl); (case rn2 => rfl)
    (case tbn3 => first | rfl | k_is | kernel_rfl); (case rn3 => rfl)
    (case tbn4 => first | rfl | k_is | kernel_rfl)
    (case b0 => k_is); (case l_0 => k_is); (case c_0 => k_is); (case k_0 => k_is)
    (case b1 => k_is); (case l_1 => k_is); (case c_1 => k_is); (case k_1 => k_is)
    (case b2 => k_is); (case l_2 => k_is); (case c_2 => k_is); (case k_2 => k_is)
    (case b3 => k_is); (case l_3 => k_is); (case c_3 => k_is); (case k_3 => k_is)
    (case b4 => k_is); (case l_4 => k_is); (case c_4 => k_is); (case k_4 => k_is)
    (case b5 => k_is); (case l_5 => k_is); (case c_5 => k_is); (case k_5 => k_is)
    (case b6 => k_is); (case l_6 => k_is); (case c_6 => k_is); (case k_6 => k_is)
    (case b7 => k_is); (case l_7 => k_is); (case c_7 => k_is); (case k_7 => k_is)
    (case b8 => k_is); (case l_8 => k_is); (case c_8 => k_is); (case k_8 => k_is)
    (case b9 => k_is); (case l_9 => k_is); (case c_9 => k_is); (case k_9 => k_is)
    (case b10 => k_is); (case l_10 => k_is); (case c_10 => k_is); (case k_10 => k_is)
    (case b11 => k_is); (case l_11 => k_is); (case c_11 => k_is); (case k_11 => k_is)
    (case b12 => k_is); (case l_12 => k_is); (case c_12 => k_is); (case k_12 => k_is)
    (case b13 => k_is); (case l_13 => k_is); (case c_13 => k_is); (case k_13 => k_is)
    (case b14 => k_is); (case l_14 => k_is); (case c_14 => k_is); (case k_14 => k_is)
    (case b15 => k_is); (case l_15 => k_is); (case c_15 => k_is); (case k_15 => k_is)
    (case b16 => k_is); (case l_16 => k_is); (case c_16 => k_is); (case k_16 => k_is)
    (case b17 => k_is); (case l_17 => k_is); (case c_17 => k_is); (case k_17 => k_is)
    (case b18 => k_is); (case l_18 => k_is); (case c_18 => k_is); (case k_18 => k_is)
    (case b19 => k_is); (case l_19 => k_is); (case c_19 => k_is); (case k_19 => k_is)
    (case b20 => k_is); (case l_20 => k_is); (case c_20 => k_is); (case k_20 => k_is)
    (case b21 => k_is); (case l_21 => k_is); (case c_21 => k_is); (case k_21 => k_is)
    (case b22 => k_is); (case l_22 => k_is); (case c_22 => k_is); (case k_22 => k_is)
    (case b23 => k_is); (case l_23 => k_is); (case c_23 => k_is); (case k_23 => k_is)
    (case b24 => k_is); (case l_24 => k_is); (case c_24 => k_is); (case k_24 => k_is)
    (case b25 => k_is); (case l_25 => k_is); (case c_25 => k_is); (case k_25 => k_is)
    (case aL => k_is); (case lL => k_is); (case cL => k_is); (case kL => k_is)
    (case gT => k_is); (case lT => k_is); (case gM => k_is); (case gL => k_is); (case gS => k_is); (case gN => k_is)
    (case gP => k_is); (case tlP => k_is); (case tzP => decide); (case tvP => exact .cons ⟨_, rfl⟩ (.cons ⟨_, rfl⟩ (.cons ⟨_, rfl⟩ (.cons ⟨_, rfl⟩ (.cons ⟨_, rfl⟩ (.cons ⟨_, rfl⟩ (.nil)))))))
    (case gF => k_is); (case lF => k_is)
    (case n0 => k_is); (case t0 => k_is)
    (case n1 => k_is); (case t1 => k_is)
    (case n2 => k_is); (case t2 => k_is)
    (case n3 => k_is); (case t3 => k_is)
    (case n4 => k_is); (case t4 => k_is)
    (case n5 => k_is); (case t5 => k_is)
    (case n6 => k_is); (case t6 => k_is)
    (case n7 => k_is); (case t7 => k_is)
    (case n8 => k_is); (case t8 => k_is)
    (case n9 => k_is); (case t9 => k_is)
    (case n10 => k_is); (case t10 => k_is)
    (case gW => k_is); (case lW => k_is)
    (case y0 => k_is); (case y1 => k_is); (case y2 => k_is)
    (case x0 => k_is); (case x1 => k_is); (case x2 => k_is); (case x3 => k_is); (case x4 => k_is); (case x5 => k_is); (case x6 => k_is); (case x7 => k_is)
    (case z0 => k_is); (case z1 => k_is); (case z2 => k_is); (case z3 => k_is); (case z4 => k_is); (case z5 => k_is); (case z6 => k_is); (case z7 => k_is); (case z8 => k_is); (case z9 => k_is); (case z10 => k_is); (case z11 => k_is); (case z12 => k_is); (case z13 => k_is); (case z14 => k_is); (case z15 => k_is)
    (case zT => decide)
    (case vT => exact .cons ⟨_, rfl⟩ (.cons ⟨_, rfl⟩ (.cons ⟨_, rfl⟩ (.cons ⟨_, rfl⟩ (.cons ⟨_, rfl⟩ (.cons ⟨_, rfl⟩ (.cons ⟨_, rfl⟩ (.cons ⟨_, rfl⟩ (.cons ⟨_, rfl⟩ (.cons ⟨_, rfl⟩ (.cons ⟨_, rfl⟩ (.cons ⟨_, rfl⟩ (.cons ⟨_, rfl⟩ (.cons ⟨_, rfl⟩ (.cons ⟨_, rfl⟩ (.cons ⟨_, rfl⟩ (.cons ⟨_, rfl⟩ (.cons ⟨_, rfl⟩ (.cons ⟨_, rfl⟩ .nil)))))))))))))))))))
    (case kl => exact ⟨⟨_, _, rfl, rfl⟩, ⟨⟨_, _, rfl, rfl⟩, ⟨⟨_, _, rfl, rfl⟩, ⟨⟨_, _, rfl, rfl⟩, ⟨⟨_, _, rfl, rfl⟩, ⟨⟨_, _, rfl, rfl⟩, ⟨⟨_, _, rfl, rfl⟩, ⟨⟨_, _, rfl, rfl⟩, ⟨⟨_, _, rfl, rfl⟩, ⟨⟨_, _, rfl, rfl⟩, ⟨⟨_, _, rfl, rfl⟩, trivial⟩⟩⟩⟩⟩⟩⟩⟩⟩⟩⟩)
    (case kw => exact ⟨⟨_, _, rfl, rfl⟩, ⟨⟨_, _, rfl, rfl⟩, ⟨⟨_, _, rfl, rfl⟩, trivial⟩⟩⟩)
    (case ky => first | rfl | decide +kernel | kernel_rfl)
    (case lo => first | rfl | decide +kernel)
    (case lw => first | rfl | decide +kernel)
    (case s0 => decide); (case u0 => exact .cons ⟨_, rfl⟩ (.cons ⟨_, rfl⟩ (.nil)))
    (case s1 => decide); (case u1 => exact .cons ⟨_, rfl⟩ (.nil))
    (case s2 => decide); (case u2 => exact .cons ⟨_, rfl⟩ (.cons ⟨_, rfl⟩ (.nil)))
    (case s3 => decide); (case u3 => exact .cons ⟨_, rfl⟩ (.cons ⟨_, rfl⟩ (.nil)))
    (case s4 => decide); (case u4 => exact .cons ⟨_, rfl⟩ (.cons ⟨_, rfl⟩ (.cons ⟨_, rfl⟩ (.nil))))
    (case s5 => decide); (case u5 => exact .cons ⟨_, rfl⟩ (.cons ⟨_, rfl⟩ (.nil)))
    (case s6 => decide); (case u6 => exact .cons ⟨_, rfl⟩ (.nil))
    (case s7 => decide); (case u7 => exact .cons ⟨_, rfl⟩ (.nil))
    (case s8 => decide); (case u8 => exact .cons ⟨_, rfl⟩ (.cons ⟨_, rfl⟩ (.nil)))
    (case s9 => decide); (case u9 => exact .cons ⟨_, rfl⟩ (.cons ⟨_, rfl⟩ (.nil)))
    (case s10 => decide); (case u10 => exact .cons ⟨_, rfl⟩ (.nil))

